/- The contract of the reference's end. -/
import Derived.Test.YtcjbfgkmpoebgaaDoorRpRefBase
namespace Go.Proofs.YtcjbfgkmpoebgaaDoor
open Go.RowKit Go.Shelf
attribute [local go_sem] Oper.semAt_some
set_option linter.unusedVariables false
set_option linter.unusedSimpArgs false

theorem idx_at (l : List UInt8) (k : Nat) (h : k < l.length) (W : World) : (Instr.index 9 (.string ⟨l.toArray⟩) (.int .i64 (k : Int))).run Tryd.prog W = .ok (.int .u8 ((l.getD k 0).toNat : Int)) W := by
  have hs : (⟨l.toArray⟩ : ByteArray).size = l.length := by simp [ByteArray.size]
  have e : l.getD k 0 = l[k] := by simp [List.getD, h]
  rw [run_index_string W 9 ⟨l.toArray⟩ .i64 (k : Int) Tryd.underlying9, dif_pos ⟨by omega, by rw [hs]; omega⟩, e]
  rfl
theorem drop_at {l : List UInt8} {k : Nat} (h : k < l.length) : l.drop k = l.getD k 0 :: l.drop (k + 1) := by
  rw [List.drop_eq_getElem_cons h]
  simp [List.getD, h]
theorem drop_end {l : List UInt8} {k : Nat} (h : l.length ≤ k) : l.drop k = [] := List.drop_eq_nil_of_le h

/-- what is told of a line's end. -/
def EndOut (n : Nat) (k : Int) (s : List UInt8) (m : Int) (w : World) (o : Rp.Out Unit) (e : Ending) (W : World) : Prop :=
  (match o with
    | .ok _ t => e = .returned (.agg #[.int .i64 k, .string ⟨s.toArray⟩, .int .i64 m, .slice none 0 0, .int .i64 ((n : Int) - (t.length : Int)), .int .i64 0])
    | .err c => c ≠ 0 ∧ e = .returned (badV c)) ∧ Below w.heap.size w W

set_option maxRecDepth 100000 in
set_option maxHeartbeats 8000000 in
theorem end_any (B : List UInt8) (i : Nat) (k : Int) (s : List UInt8) (m : Int) (w : World) (hl : B.length ≤ 1000) (hi : i ≤ B.length) :
    Calls Tryd.prog 55 #[.string ⟨B.toArray⟩, .int .i64 (i : Int), .agg #[.int .i64 k, .string ⟨s.toArray⟩, .int .i64 m, .slice none 0 0]] w (EndOut B.length k s m w (Rp.endP () (B.drop i))) := by
  obtain ⟨w1, hw1⟩ : ∃ w1, (w.alloc (.cells #[.int .i64 k, .string ⟨s.toArray⟩, .int .i64 m, .slice none 0 0] 24)).alloc (.cells #[.int .i64 0, .string ⟨#[]⟩, .int .i64 0, .slice none 0 0, .int .i64 0, .int .i64 0] 36) = w1 := ⟨_, rfl⟩
  have hz : Rd6 w1 (w.heap.size + 1) (.int .i64 0) (.string ⟨#[]⟩) (.int .i64 0) (.slice none 0 0) (.int .i64 0) (.int .i64 0) := by
    have := Rd6.new (w.alloc (.cells #[.int .i64 k, .string ⟨s.toArray⟩, .int .i64 m, .slice none 0 0] 24)) (.int .i64 0) (.string ⟨#[]⟩) (.int .i64 0) (.slice none 0 0) (.int .i64 0) (.int .i64 0)
    rw [World.size_alloc, hw1] at this
    exact this
  have hb0 : Below w.heap.size w (w.alloc (.cells #[.int .i64 k, .string ⟨s.toArray⟩, .int .i64 m, .slice none 0 0] 24)) := (Below.refl _ w).alloc (Nat.le_refl _) _
  have hbx : Below (w.alloc (.cells #[.int .i64 k, .string ⟨s.toArray⟩, .int .i64 m, .slice none 0 0] 24)).heap.size (w.alloc (.cells #[.int .i64 k, .string ⟨s.toArray⟩, .int .i64 m, .slice none 0 0] 24)) w1 := by rw [← hw1]; exact (Below.refl _ _).alloc (Nat.le_refl _) _
  have hb1 : Below w.heap.size w w1 := hb0.trans (hbx.mono hb0.size)
  have hx := (hbx.block w.heap.size (by simp)).trans (World.alloc_heap_new w _)
  obtain ⟨x0, x1, x2, x3⟩ := cells_four hx
  have HW1 := Lib.hid hw1
  have HZ := Lib.hid hz
  have HB := Lib.hid hb1
  have hlI : (B.length : Int) ≤ 1000 := by omega
  have hiI : (i : Int) ≤ (B.length : Int) := by omega
  have i0 : (0 : Int) ≤ (i : Int) := by omega
  have wi1 : IntKind.i64.wrap ((i : Int) + 1) = (i : Int) + 1 := IntWalk.i64_in _ (by omega)
  have wi2 : IntKind.i64.wrap ((i : Int) + 2) = (i : Int) + 2 := IntWalk.i64_in _ (by omega)
  clear hw1 hz hb0 hbx hb1 hx
  by_cases h1 : i < B.length
  · have h1I : (i : Int) < (B.length : Int) := by omega
    have hnge : ¬ (B.length : Int) ≤ (i : Int) := by omega
    have hix := idx_at B i h1
    have hdr := drop_at h1
    obtain ⟨c, hc⟩ : ∃ c, B.getD i 0 = c := ⟨_, rfl⟩
    rw [hc] at hdr hix
    obtain ⟨y, hy⟩ : ∃ y : Int, (c.toNat : Int) = y := ⟨_, rfl⟩
    rw [hy] at hix
    by_cases h13 : c = 13
    · have hy13 : y = 13 := by rw [← hy, h13]; rfl
      subst hy13
      by_cases h2 : i + 1 < B.length
      · have h2I : (i : Int) + 1 < (B.length : Int) := by omega
        have h2n : ¬ (B.length : Int) ≤ (i : Int) + 1 := by omega
        have hix2 := idx_at B (i + 1) h2
        rw [show ((i + 1 : Nat) : Int) = (i : Int) + 1 from rfl] at hix2
        have hdr2 := drop_at h2
        obtain ⟨c2, hc2⟩ : ∃ c2, B.getD (i + 1) 0 = c2 := ⟨_, rfl⟩
        rw [hc2] at hdr2 hix2
        obtain ⟨y2, hy2⟩ : ∃ y2 : Int, (c2.toNat : Int) = y2 := ⟨_, rfl⟩
        rw [hy2] at hix2
        by_cases h10 : c2 = 10
        · have hy10 : y2 = 10 := by rw [← hy2, h10]; rfl
          subst hy10
          have HR := Lib.hid (show Rp.endP () (B.drop i) = .ok () (B.drop (i + 2)) by rw [hdr, hdr2, h13, h10]; rfl)
          have hnx : (B.length : Int) - ((B.drop (i + 2)).length : Int) = (i : Int) + 2 := by rw [List.length_drop]; omega
          have HNX := Lib.hid hnx
          obtain ⟨z0, z1, z2, z3, z4, z5⟩ := HZ.out.cells
          obtain ⟨f0, f1, f2, f3, f4, f5⟩ := HZ.out.cells'
          clear hdr hdr2 hnx hc hc2 hy hy2
          go_enter Tryd.func55, Tryd.ntmps55
          go_upto_region 1 with (fail)
          rw [show (w.alloc (.cells #[.int .i64 k, .string ⟨s.toArray⟩, .int .i64 m, .slice none 0 0] 24)).alloc (.cells #[.int .i64 0, .string ⟨#[]⟩, .int .i64 0, .slice none 0 0, .int .i64 0, .int .i64 0] 36) = w1 from HW1.out]
          clear HW1
          go_wp2
          have hs := HZ.out.set (.int .i64 k) (.string ⟨s.toArray⟩) (.int .i64 m) (.slice none 0 0) (.int .i64 ((i : Int) + 2)) (.int .i64 0)
          have hb := set6_below HB.out (b := w.heap.size + 1) (by omega) (.int .i64 k) (.string ⟨s.toArray⟩) (.int .i64 m) (.slice none 0 0) (.int .i64 ((i : Int) + 2)) (.int .i64 0)
          show bodyPost _ _ _ .ret _ (set6 w1 (w.heap.size + 1) (.int .i64 k) (.string ⟨s.toArray⟩) (.int .i64 m) (.slice none 0 0) (.int .i64 ((i : Int) + 2)) (.int .i64 0))
          generalize set6 w1 (w.heap.size + 1) (.int .i64 k) (.string ⟨s.toArray⟩) (.int .i64 m) (.slice none 0 0) (.int .i64 ((i : Int) + 2)) (.int .i64 0) = wend at hs hb
          exact bodyPost_ret (results_cell rfl rfl (loadRd hs)) rfl ⟨by rw [HR.out]; simp only; rw [HNX.out], hb⟩
        · have hy10 : (y2 == 10) = false := by rw [beq_eq_false_iff_ne]; intro h; exact h10 (UInt8.toNat_inj.1 (by have : (10 : UInt8).toNat = 10 := rfl; omega))
          have hyn : ¬ y2 = 10 := beq_eq_false_iff_ne.1 hy10
          have HR := Lib.hid (show Rp.endP () (B.drop i) = .err 5 by rw [hdr, hdr2, h13]; show (if c2 = 10 then _ else _) = _; rw [if_neg h10])
          clear hdr hdr2 hc hc2 hy hy2
          go_enter Tryd.func55, Tryd.ntmps55
          go_upto_region 1 with (fail)
          rw [show (w.alloc (.cells #[.int .i64 k, .string ⟨s.toArray⟩, .int .i64 m, .slice none 0 0] 24)).alloc (.cells #[.int .i64 0, .string ⟨#[]⟩, .int .i64 0, .slice none 0 0, .int .i64 0, .int .i64 0] 36) = w1 from HW1.out]
          clear HW1
          go_wp2_with fail
          refine (bad_any 5 w1).mono ?_
          rintro e wb ⟨rfl, hbb⟩
          unfold badV
          have HZb := Lib.hid (HZ.out.later hbb)
          have HBb := Lib.hid (HB.out.trans (hbb.mono HB.out.size))
          obtain ⟨z0, z1, z2, z3, z4, z5⟩ := HZb.out.cells
          obtain ⟨f0, f1, f2, f3, f4, f5⟩ := HZb.out.cells'
          clear hbb
          go_wp2
          have hs := HZb.out.set (.int .i64 0) (.string ⟨#[]⟩) (.int .i64 0) (.slice none 0 0) (.int .i64 0) (.int .i64 5)
          have hb := set6_below HBb.out (b := w.heap.size + 1) (by omega) (.int .i64 0) (.string ⟨#[]⟩) (.int .i64 0) (.slice none 0 0) (.int .i64 0) (.int .i64 5)
          show bodyPost _ _ _ .ret _ (set6 wb (w.heap.size + 1) (.int .i64 0) (.string ⟨#[]⟩) (.int .i64 0) (.slice none 0 0) (.int .i64 0) (.int .i64 5))
          generalize set6 wb (w.heap.size + 1) (.int .i64 0) (.string ⟨#[]⟩) (.int .i64 0) (.slice none 0 0) (.int .i64 0) (.int .i64 5) = wend at hs hb
          exact bodyPost_ret (results_cell rfl rfl (loadRd hs)) rfl ⟨by rw [HR.out]; exact ⟨by decide, rfl⟩, hb⟩
      · have h2I : (B.length : Int) ≤ (i : Int) + 1 := by omega
        have HR := Lib.hid (show Rp.endP () (B.drop i) = .err 6 by rw [hdr, h13, drop_end (by omega)]; rfl)
        clear hdr hc hy
        go_enter Tryd.func55, Tryd.ntmps55
        go_upto_region 1 with (fail)
        rw [show (w.alloc (.cells #[.int .i64 k, .string ⟨s.toArray⟩, .int .i64 m, .slice none 0 0] 24)).alloc (.cells #[.int .i64 0, .string ⟨#[]⟩, .int .i64 0, .slice none 0 0, .int .i64 0, .int .i64 0] 36) = w1 from HW1.out]
        clear HW1
        go_wp2_with fail
        refine (bad_any 6 w1).mono ?_
        rintro e wb ⟨rfl, hbb⟩
        unfold badV
        have HZb := Lib.hid (HZ.out.later hbb)
        have HBb := Lib.hid (HB.out.trans (hbb.mono HB.out.size))
        obtain ⟨z0, z1, z2, z3, z4, z5⟩ := HZb.out.cells
        obtain ⟨f0, f1, f2, f3, f4, f5⟩ := HZb.out.cells'
        clear hbb
        go_wp2
        have hs := HZb.out.set (.int .i64 0) (.string ⟨#[]⟩) (.int .i64 0) (.slice none 0 0) (.int .i64 0) (.int .i64 6)
        have hb := set6_below HBb.out (b := w.heap.size + 1) (by omega) (.int .i64 0) (.string ⟨#[]⟩) (.int .i64 0) (.slice none 0 0) (.int .i64 0) (.int .i64 6)
        show bodyPost _ _ _ .ret _ (set6 wb (w.heap.size + 1) (.int .i64 0) (.string ⟨#[]⟩) (.int .i64 0) (.slice none 0 0) (.int .i64 0) (.int .i64 6))
        generalize set6 wb (w.heap.size + 1) (.int .i64 0) (.string ⟨#[]⟩) (.int .i64 0) (.slice none 0 0) (.int .i64 0) (.int .i64 6) = wend at hs hb
        exact bodyPost_ret (results_cell rfl rfl (loadRd hs)) rfl ⟨by rw [HR.out]; exact ⟨by decide, rfl⟩, hb⟩
    · have hy13 : (y == 13) = false := by rw [beq_eq_false_iff_ne]; intro h; exact h13 (UInt8.toNat_inj.1 (by have : (13 : UInt8).toNat = 13 := rfl; omega))
      have hyn : ¬ y = 13 := beq_eq_false_iff_ne.1 hy13
      have HR := Lib.hid (show Rp.endP () (B.drop i) = .err 5 by rw [hdr]; show (if c = 13 then _ else _) = _; rw [if_neg h13])
      clear hdr hc hy
      go_enter Tryd.func55, Tryd.ntmps55
      go_upto_region 1 with (fail)
      rw [show (w.alloc (.cells #[.int .i64 k, .string ⟨s.toArray⟩, .int .i64 m, .slice none 0 0] 24)).alloc (.cells #[.int .i64 0, .string ⟨#[]⟩, .int .i64 0, .slice none 0 0, .int .i64 0, .int .i64 0] 36) = w1 from HW1.out]
      clear HW1
      go_wp2_with fail
      refine (bad_any 5 w1).mono ?_
      rintro e wb ⟨rfl, hbb⟩
      unfold badV
      have HZb := Lib.hid (HZ.out.later hbb)
      have HBb := Lib.hid (HB.out.trans (hbb.mono HB.out.size))
      obtain ⟨z0, z1, z2, z3, z4, z5⟩ := HZb.out.cells
      obtain ⟨f0, f1, f2, f3, f4, f5⟩ := HZb.out.cells'
      clear hbb
      go_wp2
      have hs := HZb.out.set (.int .i64 0) (.string ⟨#[]⟩) (.int .i64 0) (.slice none 0 0) (.int .i64 0) (.int .i64 5)
      have hb := set6_below HBb.out (b := w.heap.size + 1) (by omega) (.int .i64 0) (.string ⟨#[]⟩) (.int .i64 0) (.slice none 0 0) (.int .i64 0) (.int .i64 5)
      show bodyPost _ _ _ .ret _ (set6 wb (w.heap.size + 1) (.int .i64 0) (.string ⟨#[]⟩) (.int .i64 0) (.slice none 0 0) (.int .i64 0) (.int .i64 5))
      generalize set6 wb (w.heap.size + 1) (.int .i64 0) (.string ⟨#[]⟩) (.int .i64 0) (.slice none 0 0) (.int .i64 0) (.int .i64 5) = wend at hs hb
      exact bodyPost_ret (results_cell rfl rfl (loadRd hs)) rfl ⟨by rw [HR.out]; exact ⟨by decide, rfl⟩, hb⟩
  · have h1I : (B.length : Int) ≤ (i : Int) := by omega
    have HR := Lib.hid (show Rp.endP () (B.drop i) = .err 6 by rw [drop_end (by omega)]; rfl)
    go_enter Tryd.func55, Tryd.ntmps55
    go_upto_region 1 with (fail)
    rw [show (w.alloc (.cells #[.int .i64 k, .string ⟨s.toArray⟩, .int .i64 m, .slice none 0 0] 24)).alloc (.cells #[.int .i64 0, .string ⟨#[]⟩, .int .i64 0, .slice none 0 0, .int .i64 0, .int .i64 0] 36) = w1 from HW1.out]
    clear HW1
    go_wp2_with fail
    refine (bad_any 6 w1).mono ?_
    rintro e wb ⟨rfl, hbb⟩
    unfold badV
    have HZb := Lib.hid (HZ.out.later hbb)
    have HBb := Lib.hid (HB.out.trans (hbb.mono HB.out.size))
    obtain ⟨z0, z1, z2, z3, z4, z5⟩ := HZb.out.cells
    obtain ⟨f0, f1, f2, f3, f4, f5⟩ := HZb.out.cells'
    clear hbb
    go_wp2
    have hs := HZb.out.set (.int .i64 0) (.string ⟨#[]⟩) (.int .i64 0) (.slice none 0 0) (.int .i64 0) (.int .i64 6)
    have hb := set6_below HBb.out (b := w.heap.size + 1) (by omega) (.int .i64 0) (.string ⟨#[]⟩) (.int .i64 0) (.slice none 0 0) (.int .i64 0) (.int .i64 6)
    show bodyPost _ _ _ .ret _ (set6 wb (w.heap.size + 1) (.int .i64 0) (.string ⟨#[]⟩) (.int .i64 0) (.slice none 0 0) (.int .i64 0) (.int .i64 6))
    generalize set6 wb (w.heap.size + 1) (.int .i64 0) (.string ⟨#[]⟩) (.int .i64 0) (.slice none 0 0) (.int .i64 0) (.int .i64 6) = wend at hs hb
    exact bodyPost_ret (results_cell rfl rfl (loadRd hs)) rfl ⟨by rw [HR.out]; exact ⟨by decide, rfl⟩, hb⟩
end Go.Proofs.YtcjbfgkmpoebgaaDoor
