/- The reference's readers: what they tell (Read), an error, a line's end. The contract of the reference's end. The contract of the reference's line. The contract of the reference's number. The contract of the reference's bulk. -/
import Derived.Test.YtbkhnnjjpelfcaaGreatDoorRpArray
import Derived.Test.YtbkhnnjjpelfcaaGreatDoorRpRefPlain
import Derived.LoopTactic
import Derived.Outline
import Derived.Test.YtbkhnnjjpelfcaaGreatDoorBytes
import Derived.Deep.RegionHeld3
namespace Go.Proofs.YtbkhnnjjpelfcaaGreatDoor
open Go.RowKit Go.Shelf
attribute [local go_sem] Oper.semAt_some
set_option linter.unusedVariables false
set_option linter.unusedSimpArgs false

/-- what stands at a place, as a block of six cells. -/
def Rd6 (W : World) (b : Nat) (x y z u n e : Value) : Prop := W.heap[b]? = some (.cells #[x, y, z, u, n, e] 51 (0, 0))
def set6 (A : World) (b : Nat) (x y z u n e : Value) : World := (((((A.setCell ⟨b, 0, none⟩ x).setCell ⟨b, 1, none⟩ y).setCell ⟨b, 2, none⟩ z).setCell ⟨b, 3, none⟩ u).setCell ⟨b, 4, none⟩ n).setCell ⟨b, 5, none⟩ e
theorem Rd6.set {A : World} {b : Nat} {x y z u n e : Value} (h : Rd6 A b x y z u n e) (x' y' z' u' n' e' : Value) : Rd6 (set6 A b x' y' z' u' n' e') b x' y' z' u' n' e' := by
  unfold Rd6 at h ⊢
  simp [set6, World.setCell, Array.getElem?_modify, h]
theorem Rd6.set0 {A : World} {b : Nat} {x y z u n e : Value} (h : Rd6 A b x y z u n e) (x' : Value) : Rd6 (A.setCell ⟨b, 0, none⟩ x') b x' y z u n e := by
  unfold Rd6 at h ⊢
  simp [World.setCell, Array.getElem?_modify, h]
theorem Rd6.other {A : World} {b b' j : Nat} {x y z u n e v : Value} (h : Rd6 A b x y z u n e) (hb : b ≠ b') : Rd6 (A.setCell ⟨b', j, none⟩ v) b x y z u n e := by
  unfold Rd6 at h ⊢
  rw [Below.heap_setCell A ⟨b', j, none⟩ v b hb]
  exact h
theorem set6_cell (A : World) {b b' j : Nat} (h : b' ≠ b) (x y z u n e : Value) : (set6 A b x y z u n e).cell? ⟨b', j, none⟩ = A.cell? ⟨b', j, none⟩ := by
  unfold set6
  rw [World.cell?_setCell_other _ _ _ _ (by simp [h]), World.cell?_setCell_other _ _ _ _ (by simp [h]), World.cell?_setCell_other _ _ _ _ (by simp [h]), World.cell?_setCell_other _ _ _ _ (by simp [h]), World.cell?_setCell_other _ _ _ _ (by simp [h]), World.cell?_setCell_other _ _ _ _ (by simp [h])]
theorem set6_size (A : World) (b : Nat) (x y z u n e : Value) : (set6 A b x y z u n e).heap.size = A.heap.size := by simp [set6]
theorem set6_below {B : Nat} {w A : World} (h : Below B w A) {b : Nat} (hb : B ≤ b) (x y z u n e : Value) : Below B w (set6 A b x y z u n e) :=
  (((((h.setCell (p := ⟨b, 0, none⟩) hb x).setCell (p := ⟨b, 1, none⟩) hb y).setCell (p := ⟨b, 2, none⟩) hb z).setCell (p := ⟨b, 3, none⟩) hb u).setCell (p := ⟨b, 4, none⟩) hb n).setCell (p := ⟨b, 5, none⟩) hb e
theorem Rd6.cells {W : World} {b : Nat} {x y z u n e : Value} (h : Rd6 W b x y z u n e) : W.cell? ⟨b, 0, none⟩ = some x ∧ W.cell? ⟨b, 1, none⟩ = some y ∧ W.cell? ⟨b, 2, none⟩ = some z ∧ W.cell? ⟨b, 3, none⟩ = some u ∧ W.cell? ⟨b, 4, none⟩ = some n ∧ W.cell? ⟨b, 5, none⟩ = some e := by
  unfold Rd6 at h
  simp [World.cell?, h]
theorem Rd6.cells' {W : World} {b : Nat} {x y z u n e : Value} (h : Rd6 W b x y z u n e) : W.frozen? ⟨b, 0, none⟩ = false ∧ W.frozen? ⟨b, 1, none⟩ = false ∧ W.frozen? ⟨b, 2, none⟩ = false ∧ W.frozen? ⟨b, 3, none⟩ = false ∧ W.frozen? ⟨b, 4, none⟩ = false ∧ W.frozen? ⟨b, 5, none⟩ = false := by
  unfold Rd6 at h
  simp [World.frozen?, h]
theorem Rd6.later {W W' : World} {b : Nat} {x y z u n e : Value} (h : Rd6 W b x y z u n e) (hb : Below W.heap.size W W') : Rd6 W' b x y z u n e :=
  (hb.block b (Array.getElem?_eq_some_iff.1 h).1).trans h
theorem Rd6.new (w : World) (x y z u n e : Value) : Rd6 (w.alloc (.cells #[x, y, z, u, n, e] 51)) w.heap.size x y z u n e := World.alloc_heap_new w _
theorem loadRd {W : World} {b : Nat} {x y z u n e : Value} (h : Rd6 W b x y z u n e) : (loadVar 51 ⟨b, 0, none⟩).run Tryz.prog W = .ok (.agg #[x, y, z, u, n, e]) W := by
  obtain ⟨h0, h1, h2, h3, h4, h5⟩ := h.cells
  simp [loadVar, go_sem, h0, h1, h2, h3, h4, h5]

/-- no reply. -/
def badV (c : Int) : Value := .agg #[.int .i64 0, .string ⟨#[]⟩, .int .i64 0, .slice none 0 0, .int .i64 0, .int .i64 c]

theorem bad_any (c : Int) (w : World) : Calls Tryz.prog 34 #[.int .i64 c] w fun e W => e = .returned (badV c) ∧ Below w.heap.size w W := by
  obtain ⟨w1, hw1⟩ : ∃ w1, w.alloc (.cells #[.int .i64 0, .string ⟨#[]⟩, .int .i64 0, .slice none 0 0, .int .i64 0, .int .i64 0] 51) = w1 := ⟨_, rfl⟩
  have hz : Rd6 w1 w.heap.size (.int .i64 0) (.string ⟨#[]⟩) (.int .i64 0) (.slice none 0 0) (.int .i64 0) (.int .i64 0) := by rw [← hw1]; exact Rd6.new w _ _ _ _ _ _
  have hb1 : Below w.heap.size w w1 := by rw [← hw1]; exact (Below.refl _ w).alloc (Nat.le_refl _) _
  obtain ⟨z0, z1, z2, z3, z4, z5⟩ := hz.cells
  obtain ⟨f0, f1, f2, f3, f4, f5⟩ := hz.cells'
  have HW1 := Lib.hid hw1
  have HZ := Lib.hid hz
  have HB1 := Lib.hid hb1
  clear hw1 hz hb1
  go_enter Tryz.func34, Tryz.ntmps34
  go_upto_region 1 with (fail)
  rw [show w.alloc (.cells #[.int .i64 0, .string ⟨#[]⟩, .int .i64 0, .slice none 0 0, .int .i64 0, .int .i64 0] 51) = w1 from HW1.out]
  clear HW1
  go_wp2
  have hs := HZ.out.set (.int .i64 0) (.string ⟨#[]⟩) (.int .i64 0) (.slice none 0 0) (.int .i64 0) (.int .i64 c)
  have hb := set6_below HB1.out (Nat.le_refl _) (.int .i64 0) (.string ⟨#[]⟩) (.int .i64 0) (.slice none 0 0) (.int .i64 0) (.int .i64 c)
  show bodyPost _ _ _ .ret _ (set6 w1 w.heap.size (.int .i64 0) (.string ⟨#[]⟩) (.int .i64 0) (.slice none 0 0) (.int .i64 0) (.int .i64 c))
  generalize set6 w1 w.heap.size (.int .i64 0) (.string ⟨#[]⟩) (.int .i64 0) (.slice none 0 0) (.int .i64 0) (.int .i64 c) = w2 at hs hb
  exact bodyPost_ret (results_cell rfl rfl (loadRd hs)) rfl ⟨rfl, hb⟩
end Go.Proofs.YtbkhnnjjpelfcaaGreatDoor
namespace Go.Proofs.YtbkhnnjjpelfcaaGreatDoor
open Go.RowKit Go.Shelf
attribute [local go_sem] Oper.semAt_some
set_option linter.unusedVariables false
set_option linter.unusedSimpArgs false

theorem drop_at {l : List UInt8} {k : Nat} (h : k < l.length) : l.drop k = l.getD k 0 :: l.drop (k + 1) := by
  rw [List.drop_eq_getElem_cons h]
  simp [List.getD, h]
theorem drop_end {l : List UInt8} {k : Nat} (h : l.length ≤ k) : l.drop k = [] := List.drop_eq_nil_of_le h

/-- what is told of a line's end. -/
def EndOut (n : Nat) (k : Int) (s : List UInt8) (m : Int) (w : World) (o : Rp.Out Unit) (e : Ending) (W : World) : Prop :=
  (match o with
    | .ok _ t => e = .returned (.agg #[.int .i64 k, .string ⟨s.toArray⟩, .int .i64 m, .slice none 0 0, .int .i64 ((n : Int) - (t.length : Int)), .int .i64 0])
    | .err c => c ≠ 0 ∧ e = .returned (badV c)) ∧ Below w.heap.size w W

set_option maxRecDepth 100000 in
set_option maxHeartbeats 8000000 in
theorem end_any (B : List UInt8) (i : Nat) (k : Int) (s : List UInt8) (m : Int) (w : World) (hl : B.length ≤ 3000) (hi : i ≤ B.length) :
    Calls Tryz.prog 76 #[.string ⟨B.toArray⟩, .int .i64 (i : Int), .agg #[.int .i64 k, .string ⟨s.toArray⟩, .int .i64 m, .slice none 0 0]] w (EndOut B.length k s m w (Rp.endP () (B.drop i))) := by
  obtain ⟨w1, hw1⟩ : ∃ w1, (w.alloc (.cells #[.int .i64 k, .string ⟨s.toArray⟩, .int .i64 m, .slice none 0 0] 45)).alloc (.cells #[.int .i64 0, .string ⟨#[]⟩, .int .i64 0, .slice none 0 0, .int .i64 0, .int .i64 0] 51) = w1 := ⟨_, rfl⟩
  have hz : Rd6 w1 (w.heap.size + 1) (.int .i64 0) (.string ⟨#[]⟩) (.int .i64 0) (.slice none 0 0) (.int .i64 0) (.int .i64 0) := by
    have := Rd6.new (w.alloc (.cells #[.int .i64 k, .string ⟨s.toArray⟩, .int .i64 m, .slice none 0 0] 45)) (.int .i64 0) (.string ⟨#[]⟩) (.int .i64 0) (.slice none 0 0) (.int .i64 0) (.int .i64 0)
    rw [World.size_alloc, hw1] at this
    exact this
  have hb0 : Below w.heap.size w (w.alloc (.cells #[.int .i64 k, .string ⟨s.toArray⟩, .int .i64 m, .slice none 0 0] 45)) := (Below.refl _ w).alloc (Nat.le_refl _) _
  have hbx : Below (w.alloc (.cells #[.int .i64 k, .string ⟨s.toArray⟩, .int .i64 m, .slice none 0 0] 45)).heap.size (w.alloc (.cells #[.int .i64 k, .string ⟨s.toArray⟩, .int .i64 m, .slice none 0 0] 45)) w1 := by rw [← hw1]; exact (Below.refl _ _).alloc (Nat.le_refl _) _
  have hb1 : Below w.heap.size w w1 := hb0.trans (hbx.mono hb0.size)
  have hx := (hbx.block w.heap.size (by simp)).trans (World.alloc_heap_new w _)
  obtain ⟨x0, x1, x2, x3⟩ := cells_four hx
  have HW1 := Lib.hid hw1
  have HZ := Lib.hid hz
  have HB := Lib.hid hb1
  have hlI : (B.length : Int) ≤ 3000 := by omega
  have hiI : (i : Int) ≤ (B.length : Int) := by omega
  have i0 : (0 : Int) ≤ (i : Int) := by omega
  have wi1 : IntKind.i64.wrap ((i : Int) + 1) = (i : Int) + 1 := IntWalk.i64_in _ (by omega)
  have wi2 : IntKind.i64.wrap ((i : Int) + 2) = (i : Int) + 2 := IntWalk.i64_in _ (by omega)
  clear hw1 hz hb0 hbx hb1 hx
  by_cases h1 : i < B.length
  · have h1I : (i : Int) < (B.length : Int) := by omega
    have hnge : ¬ (B.length : Int) ≤ (i : Int) := by omega
    have hix := idx_at B i h1
    have hdr := drop_at h1
    obtain ⟨c, hc⟩ : ∃ c, B.getD i 0 = c := ⟨_, rfl⟩
    rw [hc] at hdr hix
    obtain ⟨y, hy⟩ : ∃ y : Int, (c.toNat : Int) = y := ⟨_, rfl⟩
    rw [hy] at hix
    by_cases h13 : c = 13
    · have hy13 : y = 13 := by rw [← hy, h13]; rfl
      subst hy13
      by_cases h2 : i + 1 < B.length
      · have h2I : (i : Int) + 1 < (B.length : Int) := by omega
        have h2n : ¬ (B.length : Int) ≤ (i : Int) + 1 := by omega
        have hix2 := idx_at B (i + 1) h2
        rw [show ((i + 1 : Nat) : Int) = (i : Int) + 1 from rfl] at hix2
        have hdr2 := drop_at h2
        obtain ⟨c2, hc2⟩ : ∃ c2, B.getD (i + 1) 0 = c2 := ⟨_, rfl⟩
        rw [hc2] at hdr2 hix2
        obtain ⟨y2, hy2⟩ : ∃ y2 : Int, (c2.toNat : Int) = y2 := ⟨_, rfl⟩
        rw [hy2] at hix2
        by_cases h10 : c2 = 10
        · have hy10 : y2 = 10 := by rw [← hy2, h10]; rfl
          subst hy10
          have HR := Lib.hid (show Rp.endP () (B.drop i) = .ok () (B.drop (i + 2)) by rw [hdr, hdr2, h13, h10]; rfl)
          have hnx : (B.length : Int) - ((B.drop (i + 2)).length : Int) = (i : Int) + 2 := by rw [List.length_drop]; omega
          have HNX := Lib.hid hnx
          obtain ⟨z0, z1, z2, z3, z4, z5⟩ := HZ.out.cells
          obtain ⟨f0, f1, f2, f3, f4, f5⟩ := HZ.out.cells'
          clear hdr hdr2 hnx hc hc2 hy hy2
          go_enter Tryz.func76, Tryz.ntmps76
          go_upto_region 1 with (fail)
          rw [show (w.alloc (.cells #[.int .i64 k, .string ⟨s.toArray⟩, .int .i64 m, .slice none 0 0] 45)).alloc (.cells #[.int .i64 0, .string ⟨#[]⟩, .int .i64 0, .slice none 0 0, .int .i64 0, .int .i64 0] 51) = w1 from HW1.out]
          clear HW1
          go_wp2
          have hs := HZ.out.set (.int .i64 k) (.string ⟨s.toArray⟩) (.int .i64 m) (.slice none 0 0) (.int .i64 ((i : Int) + 2)) (.int .i64 0)
          have hb := set6_below HB.out (b := w.heap.size + 1) (by omega) (.int .i64 k) (.string ⟨s.toArray⟩) (.int .i64 m) (.slice none 0 0) (.int .i64 ((i : Int) + 2)) (.int .i64 0)
          show bodyPost _ _ _ .ret _ (set6 w1 (w.heap.size + 1) (.int .i64 k) (.string ⟨s.toArray⟩) (.int .i64 m) (.slice none 0 0) (.int .i64 ((i : Int) + 2)) (.int .i64 0))
          generalize set6 w1 (w.heap.size + 1) (.int .i64 k) (.string ⟨s.toArray⟩) (.int .i64 m) (.slice none 0 0) (.int .i64 ((i : Int) + 2)) (.int .i64 0) = wend at hs hb
          exact bodyPost_ret (results_cell rfl rfl (loadRd hs)) rfl ⟨by rw [HR.out]; simp only; rw [HNX.out], hb⟩
        · have hy10 : (y2 == 10) = false := by rw [beq_eq_false_iff_ne]; intro h; exact h10 (UInt8.toNat_inj.1 (by have : (10 : UInt8).toNat = 10 := rfl; omega))
          have hyn : ¬ y2 = 10 := beq_eq_false_iff_ne.1 hy10
          have HR := Lib.hid (show Rp.endP () (B.drop i) = .err 5 by rw [hdr, hdr2, h13]; show (if c2 = 10 then _ else _) = _; rw [if_neg h10])
          clear hdr hdr2 hc hc2 hy hy2
          go_enter Tryz.func76, Tryz.ntmps76
          go_upto_region 1 with (fail)
          rw [show (w.alloc (.cells #[.int .i64 k, .string ⟨s.toArray⟩, .int .i64 m, .slice none 0 0] 45)).alloc (.cells #[.int .i64 0, .string ⟨#[]⟩, .int .i64 0, .slice none 0 0, .int .i64 0, .int .i64 0] 51) = w1 from HW1.out]
          clear HW1
          go_wp2_with fail
          refine (bad_any 5 w1).mono ?_
          rintro e wb ⟨rfl, hbb⟩
          unfold badV
          have HZb := Lib.hid (HZ.out.later hbb)
          have HBb := Lib.hid (HB.out.trans (hbb.mono HB.out.size))
          obtain ⟨z0, z1, z2, z3, z4, z5⟩ := HZb.out.cells
          obtain ⟨f0, f1, f2, f3, f4, f5⟩ := HZb.out.cells'
          clear hbb
          go_wp2
          have hs := HZb.out.set (.int .i64 0) (.string ⟨#[]⟩) (.int .i64 0) (.slice none 0 0) (.int .i64 0) (.int .i64 5)
          have hb := set6_below HBb.out (b := w.heap.size + 1) (by omega) (.int .i64 0) (.string ⟨#[]⟩) (.int .i64 0) (.slice none 0 0) (.int .i64 0) (.int .i64 5)
          show bodyPost _ _ _ .ret _ (set6 wb (w.heap.size + 1) (.int .i64 0) (.string ⟨#[]⟩) (.int .i64 0) (.slice none 0 0) (.int .i64 0) (.int .i64 5))
          generalize set6 wb (w.heap.size + 1) (.int .i64 0) (.string ⟨#[]⟩) (.int .i64 0) (.slice none 0 0) (.int .i64 0) (.int .i64 5) = wend at hs hb
          exact bodyPost_ret (results_cell rfl rfl (loadRd hs)) rfl ⟨by rw [HR.out]; exact ⟨by decide, rfl⟩, hb⟩
      · have h2I : (B.length : Int) ≤ (i : Int) + 1 := by omega
        have HR := Lib.hid (show Rp.endP () (B.drop i) = .err 6 by rw [hdr, h13, drop_end (by omega)]; rfl)
        clear hdr hc hy
        go_enter Tryz.func76, Tryz.ntmps76
        go_upto_region 1 with (fail)
        rw [show (w.alloc (.cells #[.int .i64 k, .string ⟨s.toArray⟩, .int .i64 m, .slice none 0 0] 45)).alloc (.cells #[.int .i64 0, .string ⟨#[]⟩, .int .i64 0, .slice none 0 0, .int .i64 0, .int .i64 0] 51) = w1 from HW1.out]
        clear HW1
        go_wp2_with fail
        refine (bad_any 6 w1).mono ?_
        rintro e wb ⟨rfl, hbb⟩
        unfold badV
        have HZb := Lib.hid (HZ.out.later hbb)
        have HBb := Lib.hid (HB.out.trans (hbb.mono HB.out.size))
        obtain ⟨z0, z1, z2, z3, z4, z5⟩ := HZb.out.cells
        obtain ⟨f0, f1, f2, f3, f4, f5⟩ := HZb.out.cells'
        clear hbb
        go_wp2
        have hs := HZb.out.set (.int .i64 0) (.string ⟨#[]⟩) (.int .i64 0) (.slice none 0 0) (.int .i64 0) (.int .i64 6)
        have hb := set6_below HBb.out (b := w.heap.size + 1) (by omega) (.int .i64 0) (.string ⟨#[]⟩) (.int .i64 0) (.slice none 0 0) (.int .i64 0) (.int .i64 6)
        show bodyPost _ _ _ .ret _ (set6 wb (w.heap.size + 1) (.int .i64 0) (.string ⟨#[]⟩) (.int .i64 0) (.slice none 0 0) (.int .i64 0) (.int .i64 6))
        generalize set6 wb (w.heap.size + 1) (.int .i64 0) (.string ⟨#[]⟩) (.int .i64 0) (.slice none 0 0) (.int .i64 0) (.int .i64 6) = wend at hs hb
        exact bodyPost_ret (results_cell rfl rfl (loadRd hs)) rfl ⟨by rw [HR.out]; exact ⟨by decide, rfl⟩, hb⟩
    · have hy13 : (y == 13) = false := by rw [beq_eq_false_iff_ne]; intro h; exact h13 (UInt8.toNat_inj.1 (by have : (13 : UInt8).toNat = 13 := rfl; omega))
      have hyn : ¬ y = 13 := beq_eq_false_iff_ne.1 hy13
      have HR := Lib.hid (show Rp.endP () (B.drop i) = .err 5 by rw [hdr]; show (if c = 13 then _ else _) = _; rw [if_neg h13])
      clear hdr hc hy
      go_enter Tryz.func76, Tryz.ntmps76
      go_upto_region 1 with (fail)
      rw [show (w.alloc (.cells #[.int .i64 k, .string ⟨s.toArray⟩, .int .i64 m, .slice none 0 0] 45)).alloc (.cells #[.int .i64 0, .string ⟨#[]⟩, .int .i64 0, .slice none 0 0, .int .i64 0, .int .i64 0] 51) = w1 from HW1.out]
      clear HW1
      go_wp2_with fail
      refine (bad_any 5 w1).mono ?_
      rintro e wb ⟨rfl, hbb⟩
      unfold badV
      have HZb := Lib.hid (HZ.out.later hbb)
      have HBb := Lib.hid (HB.out.trans (hbb.mono HB.out.size))
      obtain ⟨z0, z1, z2, z3, z4, z5⟩ := HZb.out.cells
      obtain ⟨f0, f1, f2, f3, f4, f5⟩ := HZb.out.cells'
      clear hbb
      go_wp2
      have hs := HZb.out.set (.int .i64 0) (.string ⟨#[]⟩) (.int .i64 0) (.slice none 0 0) (.int .i64 0) (.int .i64 5)
      have hb := set6_below HBb.out (b := w.heap.size + 1) (by omega) (.int .i64 0) (.string ⟨#[]⟩) (.int .i64 0) (.slice none 0 0) (.int .i64 0) (.int .i64 5)
      show bodyPost _ _ _ .ret _ (set6 wb (w.heap.size + 1) (.int .i64 0) (.string ⟨#[]⟩) (.int .i64 0) (.slice none 0 0) (.int .i64 0) (.int .i64 5))
      generalize set6 wb (w.heap.size + 1) (.int .i64 0) (.string ⟨#[]⟩) (.int .i64 0) (.slice none 0 0) (.int .i64 0) (.int .i64 5) = wend at hs hb
      exact bodyPost_ret (results_cell rfl rfl (loadRd hs)) rfl ⟨by rw [HR.out]; exact ⟨by decide, rfl⟩, hb⟩
  · have h1I : (B.length : Int) ≤ (i : Int) := by omega
    have HR := Lib.hid (show Rp.endP () (B.drop i) = .err 6 by rw [drop_end (by omega)]; rfl)
    go_enter Tryz.func76, Tryz.ntmps76
    go_upto_region 1 with (fail)
    rw [show (w.alloc (.cells #[.int .i64 k, .string ⟨s.toArray⟩, .int .i64 m, .slice none 0 0] 45)).alloc (.cells #[.int .i64 0, .string ⟨#[]⟩, .int .i64 0, .slice none 0 0, .int .i64 0, .int .i64 0] 51) = w1 from HW1.out]
    clear HW1
    go_wp2_with fail
    refine (bad_any 6 w1).mono ?_
    rintro e wb ⟨rfl, hbb⟩
    unfold badV
    have HZb := Lib.hid (HZ.out.later hbb)
    have HBb := Lib.hid (HB.out.trans (hbb.mono HB.out.size))
    obtain ⟨z0, z1, z2, z3, z4, z5⟩ := HZb.out.cells
    obtain ⟨f0, f1, f2, f3, f4, f5⟩ := HZb.out.cells'
    clear hbb
    go_wp2
    have hs := HZb.out.set (.int .i64 0) (.string ⟨#[]⟩) (.int .i64 0) (.slice none 0 0) (.int .i64 0) (.int .i64 6)
    have hb := set6_below HBb.out (b := w.heap.size + 1) (by omega) (.int .i64 0) (.string ⟨#[]⟩) (.int .i64 0) (.slice none 0 0) (.int .i64 0) (.int .i64 6)
    show bodyPost _ _ _ .ret _ (set6 wb (w.heap.size + 1) (.int .i64 0) (.string ⟨#[]⟩) (.int .i64 0) (.slice none 0 0) (.int .i64 0) (.int .i64 6))
    generalize set6 wb (w.heap.size + 1) (.int .i64 0) (.string ⟨#[]⟩) (.int .i64 0) (.slice none 0 0) (.int .i64 0) (.int .i64 6) = wend at hs hb
    exact bodyPost_ret (results_cell rfl rfl (loadRd hs)) rfl ⟨by rw [HR.out]; exact ⟨by decide, rfl⟩, hb⟩
end Go.Proofs.YtbkhnnjjpelfcaaGreatDoor
namespace Go.Proofs.YtbkhnnjjpelfcaaGreatDoor
open Go.RowKit Go.Shelf
attribute [local go_sem] Oper.semAt_some
set_option linter.unusedVariables false
set_option linter.unusedSimpArgs false

theorem cut_at (B : List UInt8) (i j : Nat) (h : i ≤ j) (hj : j ≤ B.length) (W : World) : (Instr.slice 9 (.string ⟨B.toArray⟩) (some (.int .i64 (i : Int))) (some (.int .i64 (j : Int))) none).run Tryz.prog W = .ok (.string ⟨((B.drop i).take (j - i)).toArray⟩) W := by
  have hs : (⟨B.toArray⟩ : ByteArray).size = B.length := by simp [ByteArray.size]
  rw [run_slice_string_if W 9 ⟨B.toArray⟩ .i64 .i64 (i : Int) (j : Int) Tryz.underlying9, if_pos ⟨by omega, by rw [hs]; omega⟩, if_pos ⟨by omega, by omega⟩, Int.toNat_natCast, Int.toNat_natCast]
  congr 2
  apply ByteArray.ext
  apply Array.toList_inj.1
  rw [Lib.extract_data]

theorem take_next {B : List UInt8} {i q : Nat} (h : i ≤ q) (hq : q < B.length) : (B.drop i).take (q + 1 - i) = (B.drop i).take (q - i) ++ [B.getD q 0] := by
  rw [show q + 1 - i = (q - i) + 1 by omega, List.take_succ_eq_append_getElem (by rw [List.length_drop]; omega), List.getElem_drop]
  simp [List.getD, show i + (q - i) = q by omega, hq]

/-- what is told of a text read. -/
def LineOut (n : Nat) (k : Int) (w : World) (o : Rp.Out (List UInt8)) (e : Ending) (W : World) : Prop :=
  (match o with
    | .ok s t => e = .returned (.agg #[.int .i64 k, .string ⟨s.toArray⟩, .int .i64 0, .slice none 0 0, .int .i64 ((n : Int) - (t.length : Int)), .int .i64 0])
    | .err c => c ≠ 0 ∧ e = .returned (badV c)) ∧ Below w.heap.size w W

theorem endP_as {α β : Type} (a : α) (b : β) (l : List UInt8) : (match Rp.endP a l with | .ok _ t => Rp.endP b l = .ok b t | .err c => Rp.endP b l = .err c) := by
  unfold Rp.endP
  cases l with
  | nil => rfl
  | cons x r =>
    simp only
    split
    · rename_i h
      split at h
      · rename_i hx
        rw [if_pos hx]
        cases r with
        | nil => cases h
        | cons y t =>
          simp only at h ⊢
          split at h
          · rename_i hy
            rw [if_pos hy]
            injection h with h1 h2
            rw [h2]
          · cases h
      · cases h
    · rename_i h
      split at h
      · rename_i hx
        rw [if_pos hx]
        cases r with
        | nil => injection h with h; simp only [h]
        | cons y t =>
          simp only at h ⊢
          split at h
          · cases h
          · rename_i hy
            rw [if_neg hy]
            injection h with h
            rw [h]
      · rename_i hx
        rw [if_neg hx]
        injection h with h
        rw [h]

set_option maxRecDepth 100000 in
set_option maxHeartbeats 8000000 in
theorem line_ref (B : List UInt8) (at_ : Nat) (kind : Int) (w : World) (hl : B.length ≤ 3000) (hi : at_ ≤ B.length) :
    Calls Tryz.prog 53 #[.string ⟨B.toArray⟩, .int .i64 (at_ : Int), .int .i64 kind] w (LineOut B.length kind w (Rp.lineP (B.drop at_))) := by
  obtain ⟨w1, hw1⟩ : ∃ w1, w.alloc (.cells #[.int .i64 0, .string ⟨#[]⟩, .int .i64 0, .slice none 0 0, .int .i64 0, .int .i64 0] 51) = w1 := ⟨_, rfl⟩
  have hz : Rd6 w1 w.heap.size (.int .i64 0) (.string ⟨#[]⟩) (.int .i64 0) (.slice none 0 0) (.int .i64 0) (.int .i64 0) := by rw [← hw1]; exact Rd6.new w _ _ _ _ _ _
  have hb1 : Below w.heap.size w w1 := by rw [← hw1]; exact (Below.refl _ w).alloc (Nat.le_refl _) _
  have hsz : w.heap.size < w1.heap.size := by rw [← hw1]; simp
  have HW1 := Lib.hid hw1
  have HZ := Lib.hid hz
  have HB := Lib.hid hb1
  have hlI : (B.length : Int) ≤ 3000 := by omega
  have a0 : (0 : Int) ≤ (at_ : Int) := by omega
  have aL : (at_ : Int) ≤ (B.length : Int) := by omega
  clear hw1 hz hb1
  go_enter Tryz.func53, Tryz.ntmps53
  go_upto_region 1 with (fail)
  rw [show w.alloc (.cells #[.int .i64 0, .string ⟨#[]⟩, .int .i64 0, .slice none 0 0, .int .i64 0, .int .i64 0] 51) = w1 from HW1.out]
  clear HW1
  go_wp2
  go_loop [7] (fun i => ∃ q : Nat, at_ ≤ q ∧ q ≤ B.length ∧ i = .int .i64 (q : Int) ∧ q - at_ ≤ 512 ∧ Hid (Rp.lineL ((B.drop at_).take (q - at_)) (B.drop q) = Rp.lineP (B.drop at_))) (fun i => (B.length : Int).toNat + 1 - (intOf i).toNat)
  case atStart => exact ⟨at_, Nat.le_refl _, hi, rfl, by omega, Lib.hid (by
    rw [Nat.sub_self, List.take_zero, Rp.lineL_dev _ _ rfl (by decide), List.nil_append])⟩
  case round =>
    obtain ⟨q, hq0, hq1, rfl, hq5, HQ⟩ := hrel
    have hpl : ((B.drop at_).take (q - at_)).length = q - at_ := by rw [List.length_take, List.length_drop]; omega
    have HCUT := Lib.hid (fun W => cut_at B at_ q hq0 hq1 W)
    have HEND := Lib.hid (fun s W => end_any B q kind s 0 W hl hq1)
    have q0 : (0 : Int) ≤ (q : Int) := by omega
    have qa : (at_ : Int) ≤ (q : Int) := by omega
    have qL : (q : Int) ≤ (B.length : Int) := by omega
    have wq1 : IntKind.i64.wrap ((q : Int) + 1) = (q : Int) + 1 := IntWalk.i64_in _ (by omega)
    have wqa : IntKind.i64.wrap ((q : Int) - (at_ : Int)) = (q : Int) - (at_ : Int) := IntWalk.i64_in _ (by omega)
    by_cases h1 : q < B.length
    · have h1I : (q : Int) < (B.length : Int) := by omega
      have hix := idx_at B q h1
      have hdr := drop_at h1
      obtain ⟨c, hc⟩ : ∃ c, B.getD q 0 = c := ⟨_, rfl⟩
      rw [hc] at hdr hix
      obtain ⟨y, hy⟩ : ∃ y : Int, (c.toNat : Int) = y := ⟨_, rfl⟩
      rw [hy] at hix
      have hQ := HQ.out
      rw [hdr, Rp.lineL, hpl] at hQ
      by_cases h13 : c = 13
      · have hy13 : y = 13 := by rw [← hy, h13]; rfl
        subst hy13
        rw [if_pos h13, ← hdr] at hQ
        have HR := Lib.hid hQ
        have hcut := HCUT.out
        generalize (B.drop at_).take (q - at_) = S at *
        clear hdr hc hy hQ HQ hpl
        go_wp2_with fail
        refine (HEND.out S w1).mono ?_
        rintro e w2 ⟨ho, hb2⟩
        have has := endP_as () S (B.drop q)
        have HZ2 := Lib.hid (HZ.out.later hb2)
        have HB2 := Lib.hid (HB.out.trans (hb2.mono HB.out.size))
        obtain ⟨z0, z1, z2, z3, z4, z5⟩ := HZ2.out.cells
        obtain ⟨f0, f1, f2, f3, f4, f5⟩ := HZ2.out.cells'
        clear hb2
        generalize Rp.endP () (B.drop q) = o at ho has
        cases o with
        | ok u t =>
          simp only at ho has
          have HR2 : Hid (Rp.lineP (B.drop at_) = .ok S t) := Lib.hid (by rw [← HR.out, has])
          subst ho
          clear has HR HEND HCUT hcut
          go_wp2
          have hs := HZ2.out.set (.int .i64 kind) (.string ⟨S.toArray⟩) (.int .i64 0) (.slice none 0 0) (.int .i64 ((B.length : Int) - (t.length : Int))) (.int .i64 0)
          have hb := set6_below HB2.out (b := w.heap.size) (by omega) (.int .i64 kind) (.string ⟨S.toArray⟩) (.int .i64 0) (.slice none 0 0) (.int .i64 ((B.length : Int) - (t.length : Int))) (.int .i64 0)
          show bodyPost _ _ _ .ret _ (set6 w2 (w.heap.size) (.int .i64 kind) (.string ⟨S.toArray⟩) (.int .i64 0) (.slice none 0 0) (.int .i64 ((B.length : Int) - (t.length : Int))) (.int .i64 0))
          generalize set6 w2 (w.heap.size) (.int .i64 kind) (.string ⟨S.toArray⟩) (.int .i64 0) (.slice none 0 0) (.int .i64 ((B.length : Int) - (t.length : Int))) (.int .i64 0) = wend at hs hb
          exact bodyPost_ret (results_cell rfl rfl (loadRd hs)) rfl ⟨by rw [HR2.out], hb⟩
        | err c =>
          simp only at ho has
          obtain ⟨hc0, ho⟩ := ho
          have HR2 : Hid (Rp.lineP (B.drop at_) = .err c) := Lib.hid (by rw [← HR.out, has])
          subst ho
          unfold badV
          clear has HR HEND HCUT hcut
          go_wp2
          have hs := HZ2.out.set (.int .i64 0) (.string ⟨#[]⟩) (.int .i64 0) (.slice none 0 0) (.int .i64 0) (.int .i64 c)
          have hb := set6_below HB2.out (b := w.heap.size) (by omega) (.int .i64 0) (.string ⟨#[]⟩) (.int .i64 0) (.slice none 0 0) (.int .i64 0) (.int .i64 c)
          show bodyPost _ _ _ .ret _ (set6 w2 (w.heap.size) (.int .i64 0) (.string ⟨#[]⟩) (.int .i64 0) (.slice none 0 0) (.int .i64 0) (.int .i64 c))
          generalize set6 w2 (w.heap.size) (.int .i64 0) (.string ⟨#[]⟩) (.int .i64 0) (.slice none 0 0) (.int .i64 0) (.int .i64 c) = wend at hs hb
          exact bodyPost_ret (results_cell rfl rfl (loadRd hs)) rfl ⟨by rw [HR2.out]; exact ⟨hc0, rfl⟩, hb⟩
      · have hy13 : (y == 13) = false := by rw [beq_eq_false_iff_ne]; intro h; exact h13 (UInt8.toNat_inj.1 (by have : (13 : UInt8).toNat = 13 := rfl; omega))
        have hyn : ¬ y = 13 := beq_eq_false_iff_ne.1 hy13
        rw [if_neg h13] at hQ
        by_cases h10 : c = 10
        · have hy10 : y = 10 := by rw [← hy, h10]; rfl
          subst hy10
          have HR : Hid (Rp.lineP (B.drop at_) = .err 5) := Lib.hid (by rw [← hQ, if_pos (.inl h10)])
          clear hdr hc hy hQ HQ hpl HCUT HEND
          go_wp2_with fail
          refine (bad_any 5 w1).mono ?_
          rintro e wb ⟨rfl, hbb⟩
          unfold badV
          have HZb := Lib.hid (HZ.out.later hbb)
          have HBb := Lib.hid (HB.out.trans (hbb.mono HB.out.size))
          obtain ⟨z0, z1, z2, z3, z4, z5⟩ := HZb.out.cells
          obtain ⟨f0, f1, f2, f3, f4, f5⟩ := HZb.out.cells'
          clear hbb
          go_wp2
          have hs := HZb.out.set (.int .i64 0) (.string ⟨#[]⟩) (.int .i64 0) (.slice none 0 0) (.int .i64 0) (.int .i64 5)
          have hb := set6_below HBb.out (b := w.heap.size) (by omega) (.int .i64 0) (.string ⟨#[]⟩) (.int .i64 0) (.slice none 0 0) (.int .i64 0) (.int .i64 5)
          show bodyPost _ _ _ .ret _ (set6 wb (w.heap.size) (.int .i64 0) (.string ⟨#[]⟩) (.int .i64 0) (.slice none 0 0) (.int .i64 0) (.int .i64 5))
          generalize set6 wb (w.heap.size) (.int .i64 0) (.string ⟨#[]⟩) (.int .i64 0) (.slice none 0 0) (.int .i64 0) (.int .i64 5) = wend at hs hb
          exact bodyPost_ret (results_cell rfl rfl (loadRd hs)) rfl ⟨by rw [HR.out]; exact ⟨by decide, rfl⟩, hb⟩
        · have hy10 : (y == 10) = false := by rw [beq_eq_false_iff_ne]; intro h; exact h10 (UInt8.toNat_inj.1 (by have : (10 : UInt8).toNat = 10 := rfl; omega))
          have hyn0 : ¬ y = 10 := beq_eq_false_iff_ne.1 hy10
          by_cases h512 : 512 ≤ q - at_
          · have h5I : (512 : Int) ≤ (q : Int) - (at_ : Int) := by omega
            have HR : Hid (Rp.lineP (B.drop at_) = .err 5) := Lib.hid (by rw [← hQ, if_pos (.inr h512)])
            clear hdr hc hy hQ HQ hpl HCUT HEND
            go_wp2_with fail
            refine (bad_any 5 w1).mono ?_
            rintro e wb ⟨rfl, hbb⟩
            unfold badV
            have HZb := Lib.hid (HZ.out.later hbb)
            have HBb := Lib.hid (HB.out.trans (hbb.mono HB.out.size))
            obtain ⟨z0, z1, z2, z3, z4, z5⟩ := HZb.out.cells
            obtain ⟨f0, f1, f2, f3, f4, f5⟩ := HZb.out.cells'
            clear hbb
            go_wp2
            have hs := HZb.out.set (.int .i64 0) (.string ⟨#[]⟩) (.int .i64 0) (.slice none 0 0) (.int .i64 0) (.int .i64 5)
            have hb := set6_below HBb.out (b := w.heap.size) (by omega) (.int .i64 0) (.string ⟨#[]⟩) (.int .i64 0) (.slice none 0 0) (.int .i64 0) (.int .i64 5)
            show bodyPost _ _ _ .ret _ (set6 wb (w.heap.size) (.int .i64 0) (.string ⟨#[]⟩) (.int .i64 0) (.slice none 0 0) (.int .i64 0) (.int .i64 5))
            generalize set6 wb (w.heap.size) (.int .i64 0) (.string ⟨#[]⟩) (.int .i64 0) (.slice none 0 0) (.int .i64 0) (.int .i64 5) = wend at hs hb
            exact bodyPost_ret (results_cell rfl rfl (loadRd hs)) rfl ⟨by rw [HR.out]; exact ⟨by decide, rfl⟩, hb⟩
          · have h5I : ¬ (512 : Int) ≤ (q : Int) - (at_ : Int) := by omega
            have HQ2 : Hid (Rp.lineL ((B.drop at_).take (q + 1 - at_)) (B.drop (q + 1)) = Rp.lineP (B.drop at_)) := Lib.hid (by
              rw [← hQ, if_neg (by rintro (h | h); exact h10 h; exact h512 h)]
              rw [take_next hq0 h1, hc])
            clear hdr hc hy hQ HQ hpl HCUT HEND
            go_wp2_with fail
            go_round
            case rel => exact ⟨q + 1, by omega, by omega, by go_num, by omega, HQ2⟩
            case measure => simp [intOf]; omega
    · obtain rfl : q = B.length := by omega
      have h1I : ¬ (B.length : Int) < (B.length : Int) := by omega
      have hQ := HQ.out
      rw [drop_end (Nat.le_refl _), Rp.lineL] at hQ
      have HR : Hid (Rp.endP ((B.drop at_).take (B.length - at_)) (B.drop B.length) = Rp.lineP (B.drop at_)) := Lib.hid (by rw [← hQ, drop_end (Nat.le_refl _)]; rfl)
      have hcut := HCUT.out
      generalize (B.drop at_).take (B.length - at_) = S at *
      clear hQ HQ hpl
      go_wp2_with fail
      refine (HEND.out S w1).mono ?_
      rintro e w2 ⟨ho, hb2⟩
      have has := endP_as () S (B.drop B.length)
      have HZ2 := Lib.hid (HZ.out.later hb2)
      have HB2 := Lib.hid (HB.out.trans (hb2.mono HB.out.size))
      obtain ⟨z0, z1, z2, z3, z4, z5⟩ := HZ2.out.cells
      obtain ⟨f0, f1, f2, f3, f4, f5⟩ := HZ2.out.cells'
      clear hb2
      generalize Rp.endP () (B.drop B.length) = o at ho has
      cases o with
      | ok u t =>
        simp only at ho has
        have HR2 : Hid (Rp.lineP (B.drop at_) = .ok S t) := Lib.hid (by rw [← HR.out, has])
        subst ho
        clear has HR HEND HCUT hcut
        go_wp2
        have hs := HZ2.out.set (.int .i64 kind) (.string ⟨S.toArray⟩) (.int .i64 0) (.slice none 0 0) (.int .i64 ((B.length : Int) - (t.length : Int))) (.int .i64 0)
        have hb := set6_below HB2.out (b := w.heap.size) (by omega) (.int .i64 kind) (.string ⟨S.toArray⟩) (.int .i64 0) (.slice none 0 0) (.int .i64 ((B.length : Int) - (t.length : Int))) (.int .i64 0)
        show bodyPost _ _ _ .ret _ (set6 w2 (w.heap.size) (.int .i64 kind) (.string ⟨S.toArray⟩) (.int .i64 0) (.slice none 0 0) (.int .i64 ((B.length : Int) - (t.length : Int))) (.int .i64 0))
        generalize set6 w2 (w.heap.size) (.int .i64 kind) (.string ⟨S.toArray⟩) (.int .i64 0) (.slice none 0 0) (.int .i64 ((B.length : Int) - (t.length : Int))) (.int .i64 0) = wend at hs hb
        exact bodyPost_ret (results_cell rfl rfl (loadRd hs)) rfl ⟨by rw [HR2.out], hb⟩
      | err c =>
        simp only at ho has
        obtain ⟨hc0, ho⟩ := ho
        have HR2 : Hid (Rp.lineP (B.drop at_) = .err c) := Lib.hid (by rw [← HR.out, has])
        subst ho
        unfold badV
        clear has HR HEND HCUT hcut
        go_wp2
        have hs := HZ2.out.set (.int .i64 0) (.string ⟨#[]⟩) (.int .i64 0) (.slice none 0 0) (.int .i64 0) (.int .i64 c)
        have hb := set6_below HB2.out (b := w.heap.size) (by omega) (.int .i64 0) (.string ⟨#[]⟩) (.int .i64 0) (.slice none 0 0) (.int .i64 0) (.int .i64 c)
        show bodyPost _ _ _ .ret _ (set6 w2 (w.heap.size) (.int .i64 0) (.string ⟨#[]⟩) (.int .i64 0) (.slice none 0 0) (.int .i64 0) (.int .i64 c))
        generalize set6 w2 (w.heap.size) (.int .i64 0) (.string ⟨#[]⟩) (.int .i64 0) (.slice none 0 0) (.int .i64 0) (.int .i64 c) = wend at hs hb
        exact bodyPost_ret (results_cell rfl rfl (loadRd hs)) rfl ⟨by rw [HR2.out]; exact ⟨hc0, rfl⟩, hb⟩
end Go.Proofs.YtbkhnnjjpelfcaaGreatDoor
namespace Go.Proofs.YtbkhnnjjpelfcaaGreatDoor
open Go.RowKit Go.Shelf
attribute [local go_sem] Oper.semAt_some
set_option linter.unusedVariables false
set_option linter.unusedSimpArgs false

/-- what is told of a number read. -/
def NumbOut (n : Nat) (w : World) (o : Rp.Out Int) (e : Ending) (W : World) : Prop :=
  (match o with
    | .ok v t => e = .returned (.agg #[.int .i64 0, .string ⟨#[]⟩, .int .i64 v, .slice none 0 0, .int .i64 ((n : Int) - (t.length : Int)), .int .i64 0])
    | .err c => c ≠ 0 ∧ e = .returned (badV c)) ∧ Below w.heap.size w W

theorem numL_digit {neg : Bool} {M : Nat} {fst : Bool} {u : Nat} {c : UInt8} {r : List UInt8} (h : 48 ≤ c.toNat ∧ c.toNat ≤ 57) : Rp.numL neg M fst u (c :: r) = if (fst = false ∧ u = 0) ∨ (neg = true ∧ fst = true ∧ c.toNat = 48) ∨ M < 10 * u + (c.toNat - 48) then .err 5 else Rp.numL neg M false (10 * u + (c.toNat - 48)) r := by
  rw [Rp.numL, if_pos h]
theorem numL_other {neg : Bool} {M : Nat} {fst : Bool} {u : Nat} {c : UInt8} {r : List UInt8} (h : ¬ (48 ≤ c.toNat ∧ c.toNat ≤ 57)) : Rp.numL neg M fst u (c :: r) = if fst = true then .err 5 else Rp.endP (if neg = true then -(u : Int) else (u : Int)) (c :: r) := by
  rw [Rp.numL, if_neg h]

set_option maxRecDepth 100000 in
set_option maxHeartbeats 8000000 in
theorem number_minus (B : List UInt8) (at_ : Nat) (low : Bool) (m : Nat) (w : World) (hl : B.length ≤ 3000) (hi : at_ ≤ B.length) (hm9 : 9 ≤ m) (hm : m ≤ 9223372036854775807) (hh : (B.drop at_).head? = some 45) :
    Calls Tryz.prog 54 #[.string ⟨B.toArray⟩, .int .i64 (at_ : Int), .bool low, .int .u64 (m : Int)] w (NumbOut B.length w (Rp.refN low m (B.drop at_))) := by
  obtain ⟨w1, hw1⟩ : ∃ w1, w.alloc (.cells #[.int .i64 0, .string ⟨#[]⟩, .int .i64 0, .slice none 0 0, .int .i64 0, .int .i64 0] 51) = w1 := ⟨_, rfl⟩
  have hz : Rd6 w1 w.heap.size (.int .i64 0) (.string ⟨#[]⟩) (.int .i64 0) (.slice none 0 0) (.int .i64 0) (.int .i64 0) := by rw [← hw1]; exact Rd6.new w _ _ _ _ _ _
  have hb1 : Below w.heap.size w w1 := by rw [← hw1]; exact (Below.refl _ w).alloc (Nat.le_refl _) _
  have hsz : w.heap.size < w1.heap.size := by rw [← hw1]; simp
  have HW1 := Lib.hid hw1
  have HZ := Lib.hid hz
  have HB := Lib.hid hb1
  have hlI : (B.length : Int) ≤ 3000 := by omega
  have a0 : (0 : Int) ≤ (at_ : Int) := by omega
  have aL : (at_ : Int) ≤ (B.length : Int) := by omega
  have wa1 : IntKind.i64.wrap ((at_ : Int) + 1) = (at_ : Int) + 1 := IntWalk.i64_in _ (by omega)
  clear hw1 hz hb1
  have h1 : at_ < B.length := by
    rcases Nat.lt_or_ge at_ B.length with h | h
    · exact h
    · rw [drop_end h] at hh; cases hh
  have h1I : (at_ : Int) < (B.length : Int) := by omega
  have hix := idx_at B at_ h1
  have hdr := drop_at h1
  have hc : B.getD at_ 0 = 45 := by rw [hdr] at hh; simpa using hh
  rw [hc] at hix
  have hix' : ∀ W : World, (Instr.index 9 (.string ⟨B.toArray⟩) (.int .i64 (at_ : Int))).run Tryz.prog W = .ok (.int .u8 45) W := hix
  clear hix
  cases low with
  | false =>
    have HR := Lib.hid (show Rp.refN false m (B.drop at_) = .err 5 by unfold Rp.refN; rw [if_pos hh, if_neg (by decide)])
    clear hdr hc hh
    go_enter Tryz.func54, Tryz.ntmps54
    go_upto_region 1 with (fail)
    rw [show w.alloc (.cells #[.int .i64 0, .string ⟨#[]⟩, .int .i64 0, .slice none 0 0, .int .i64 0, .int .i64 0] 51) = w1 from HW1.out]
    clear HW1
    go_wp2_with fail
    refine (bad_any 5 w1).mono ?_
    rintro e wb ⟨rfl, hbb⟩
    unfold badV
    have HZb := Lib.hid (HZ.out.later hbb)
    have HBb := Lib.hid (HB.out.trans (hbb.mono HB.out.size))
    obtain ⟨z0, z1, z2, z3, z4, z5⟩ := HZb.out.cells
    obtain ⟨f0, f1, f2, f3, f4, f5⟩ := HZb.out.cells'
    clear hbb
    go_wp2
    have hs := HZb.out.set (.int .i64 0) (.string ⟨#[]⟩) (.int .i64 0) (.slice none 0 0) (.int .i64 0) (.int .i64 5)
    have hb := set6_below HBb.out (b := w.heap.size) (by omega) (.int .i64 0) (.string ⟨#[]⟩) (.int .i64 0) (.slice none 0 0) (.int .i64 0) (.int .i64 5)
    show bodyPost _ _ _ .ret _ (set6 wb (w.heap.size) (.int .i64 0) (.string ⟨#[]⟩) (.int .i64 0) (.slice none 0 0) (.int .i64 0) (.int .i64 5))
    generalize set6 wb (w.heap.size) (.int .i64 0) (.string ⟨#[]⟩) (.int .i64 0) (.slice none 0 0) (.int .i64 0) (.int .i64 5) = wend at hs hb
    exact bodyPost_ret (results_cell rfl rfl (loadRd hs)) rfl ⟨by rw [HR.out]; exact ⟨by decide, rfl⟩, hb⟩
  | true =>
    obtain ⟨k0, hk0⟩ : ∃ k0, at_ + 1 = k0 := ⟨_, rfl⟩
    obtain ⟨M, hM⟩ : ∃ M, m + 1 = M := ⟨_, rfl⟩
    have HS := Lib.hid (show Rp.numL true M true 0 (B.drop k0) = Rp.refN true m (B.drop at_) by unfold Rp.refN; rw [if_pos hh, if_pos rfl, List.drop_drop, hk0, hM])
    have hkI : (at_ : Int) + 1 = (k0 : Int) := by omega
    have hMI : (m : Int) + 1 = (M : Int) := by omega
    have wM : IntKind.u64.wrap ((m : Int) + 1) = (M : Int) := by rw [IntKind.wrap_u64]; omega
    have hkL : k0 ≤ B.length := by omega
    generalize Rp.refN true m (B.drop at_) = R at HS ⊢
    generalize hlow : true = low
    clear hdr hc hh hk0
    go_enter Tryz.func54, Tryz.ntmps54
    go_upto_region 1 with (fail)
    rw [show w.alloc (.cells #[.int .i64 0, .string ⟨#[]⟩, .int .i64 0, .slice none 0 0, .int .i64 0, .int .i64 0] 51) = w1 from HW1.out]
    clear HW1
    subst hlow
    go_wp2_with fail
    go_loop [9, 11, 13] (fun i u _ => ∃ (q : Nat) (U : Int), k0 ≤ q ∧ q ≤ B.length ∧ i = .int .i64 (q : Int) ∧ u = .int .u64 U ∧ 0 ≤ U ∧ U ≤ (M : Int) ∧ (q = k0 → U = 0) ∧ Hid (Rp.numL true M (decide (q = k0)) U.toNat (B.drop q) = R)) (fun i _ _ => (B.length : Int).toNat + 1 - (intOf i).toNat)
    case atStart => exact ⟨k0, 0, Nat.le_refl _, hkL, rfl, rfl, by decide, by omega, fun _ => rfl, Lib.hid (by rw [decide_eq_true rfl]; exact HS.out)⟩
    case round =>
      obtain ⟨q, U, hq0, hq1, rfl, rfl, u0, uM, hU0, HQ⟩ := hrel
      have HEND := Lib.hid (fun n W => end_any B q 0 [] n W hl hq1)
      have q0 : (0 : Int) ≤ (q : Int) := by omega
      have qk : (k0 : Int) ≤ (q : Int) := by omega
      have qL : (q : Int) ≤ (B.length : Int) := by omega
      have wq1 : IntKind.i64.wrap ((q : Int) + 1) = (q : Int) + 1 := IntWalk.i64_in _ (by omega)
      obtain ⟨X, hX⟩ : ∃ X, IntKind.i64.wrap U = X := ⟨_, rfl⟩
      obtain ⟨Y, hY⟩ : ∃ Y, IntKind.u64.wrap (-U) = Y := ⟨_, rfl⟩
      have hY2 : IntKind.i64.wrap Y = -U := by rw [← hY, IntKind.wrap_u64, IntKind.wrap_i64]; omega
      by_cases h1 : q < B.length
      · have h1I : (q : Int) < (B.length : Int) := by omega
        have hne : ((q : Int) == (B.length : Int)) = false := by rw [beq_eq_false_iff_ne]; omega
        have hnm : ¬ (q : Int) = (B.length : Int) := by omega
        have hix := idx_at B q h1
        have hdr := drop_at h1
        obtain ⟨c, hc⟩ : ∃ c, B.getD q 0 = c := ⟨_, rfl⟩
        rw [hc] at hdr hix
        obtain ⟨y, hy⟩ : ∃ y : Int, (c.toNat : Int) = y := ⟨_, rfl⟩
        rw [hy] at hix
        have hcb := UInt8.toNat_lt c
        have y0 : 0 ≤ y := by omega
        have y9 : y ≤ 255 := by omega
        have hQ := HQ.out
        rw [hdr] at hQ
        clear HQ hcb
        by_cases h48 : y < 48
        · have h48n : ¬ (48 : Int) ≤ y := by omega
          have hnd : ¬ (48 ≤ c.toNat ∧ c.toNat ≤ 57) := by omega
          rw [numL_other hnd] at hQ
          by_cases hqk : q = k0
          · have HR : Hid (R = .err 5) := Lib.hid (by rw [← hQ, if_pos (by simp [hqk])])
            subst hqk
            clear hdr hc hy hQ hnd HEND hU0
            go_wp2_with fail
            refine (bad_any 5 w1).mono ?_
            rintro e wb ⟨rfl, hbb⟩
            unfold badV
            have HZb := Lib.hid (HZ.out.later hbb)
            have HBb := Lib.hid (HB.out.trans (hbb.mono HB.out.size))
            obtain ⟨z0, z1, z2, z3, z4, z5⟩ := HZb.out.cells
            obtain ⟨f0, f1, f2, f3, f4, f5⟩ := HZb.out.cells'
            clear hbb
            go_wp2
            have hs := HZb.out.set (.int .i64 0) (.string ⟨#[]⟩) (.int .i64 0) (.slice none 0 0) (.int .i64 0) (.int .i64 5)
            have hb := set6_below HBb.out (b := w.heap.size) (by omega) (.int .i64 0) (.string ⟨#[]⟩) (.int .i64 0) (.slice none 0 0) (.int .i64 0) (.int .i64 5)
            show bodyPost _ _ _ .ret _ (set6 wb (w.heap.size) (.int .i64 0) (.string ⟨#[]⟩) (.int .i64 0) (.slice none 0 0) (.int .i64 0) (.int .i64 5))
            generalize set6 wb (w.heap.size) (.int .i64 0) (.string ⟨#[]⟩) (.int .i64 0) (.slice none 0 0) (.int .i64 0) (.int .i64 5) = wend at hs hb
            exact bodyPost_ret (results_cell rfl rfl (loadRd hs)) rfl ⟨by rw [HR.out]; exact ⟨by decide, rfl⟩, hb⟩
          · have hqn : ((q : Int) == (k0 : Int)) = false := by rw [beq_eq_false_iff_ne]; omega
            have hqm : ¬ (q : Int) = (k0 : Int) := by omega
            have HR : Hid (Rp.endP (-U) (B.drop q) = R) := Lib.hid (by
              rw [← hQ, if_neg (by simp [hqk]), hdr]
              congr 1
              rw [if_pos rfl, Int.toNat_of_nonneg u0])
            clear hdr hc hy hQ hnd hU0 hqk
            have has := endP_as () (-U) (B.drop q)
            go_wp2_with fail
            refine (HEND.out (-U) w1).mono ?_
            rintro e w2 ⟨ho, hb2⟩
            have HZ2 := Lib.hid (HZ.out.later hb2)
            have HB2 := Lib.hid (HB.out.trans (hb2.mono HB.out.size))
            obtain ⟨z0, z1, z2, z3, z4, z5⟩ := HZ2.out.cells
            obtain ⟨f0, f1, f2, f3, f4, f5⟩ := HZ2.out.cells'
            clear hb2
            generalize Rp.endP () (B.drop q) = o at ho has
            cases o with
            | ok u t =>
              simp only at ho has
              have HR2 : Hid (R = .ok ((-U)) t) := Lib.hid (by rw [← HR.out, has])
              subst ho
              clear has HR HEND
              go_wp2
              have hs := HZ2.out.set (.int .i64 0) (.string ⟨#[]⟩) (.int .i64 (-U)) (.slice none 0 0) (.int .i64 ((B.length : Int) - (t.length : Int))) (.int .i64 0)
              have hb := set6_below HB2.out (b := w.heap.size) (by omega) (.int .i64 0) (.string ⟨#[]⟩) (.int .i64 (-U)) (.slice none 0 0) (.int .i64 ((B.length : Int) - (t.length : Int))) (.int .i64 0)
              show bodyPost _ _ _ .ret _ (set6 w2 (w.heap.size) (.int .i64 0) (.string ⟨#[]⟩) (.int .i64 (-U)) (.slice none 0 0) (.int .i64 ((B.length : Int) - (t.length : Int))) (.int .i64 0))
              generalize set6 w2 (w.heap.size) (.int .i64 0) (.string ⟨#[]⟩) (.int .i64 (-U)) (.slice none 0 0) (.int .i64 ((B.length : Int) - (t.length : Int))) (.int .i64 0) = wend at hs hb
              exact bodyPost_ret (results_cell rfl rfl (loadRd hs)) rfl ⟨by rw [HR2.out], hb⟩
            | err c =>
              simp only at ho has
              obtain ⟨hc0, ho⟩ := ho
              have HR2 : Hid (R = .err c) := Lib.hid (by rw [← HR.out, has])
              subst ho
              unfold badV
              clear has HR HEND
              go_wp2
              have hs := HZ2.out.set (.int .i64 0) (.string ⟨#[]⟩) (.int .i64 0) (.slice none 0 0) (.int .i64 0) (.int .i64 c)
              have hb := set6_below HB2.out (b := w.heap.size) (by omega) (.int .i64 0) (.string ⟨#[]⟩) (.int .i64 0) (.slice none 0 0) (.int .i64 0) (.int .i64 c)
              show bodyPost _ _ _ .ret _ (set6 w2 (w.heap.size) (.int .i64 0) (.string ⟨#[]⟩) (.int .i64 0) (.slice none 0 0) (.int .i64 0) (.int .i64 c))
              generalize set6 w2 (w.heap.size) (.int .i64 0) (.string ⟨#[]⟩) (.int .i64 0) (.slice none 0 0) (.int .i64 0) (.int .i64 c) = wend at hs hb
              exact bodyPost_ret (results_cell rfl rfl (loadRd hs)) rfl ⟨by rw [HR2.out]; exact ⟨hc0, rfl⟩, hb⟩
        · have h48p : (48 : Int) ≤ y := by omega
          by_cases h57 : 57 < y
          · have h57n : ¬ y ≤ (57 : Int) := by omega
            have hnd : ¬ (48 ≤ c.toNat ∧ c.toNat ≤ 57) := by omega
            rw [numL_other hnd] at hQ
            by_cases hqk : q = k0
            · have HR : Hid (R = .err 5) := Lib.hid (by rw [← hQ, if_pos (by simp [hqk])])
              subst hqk
              clear hdr hc hy hQ hnd HEND hU0
              go_wp2_with fail
              refine (bad_any 5 w1).mono ?_
              rintro e wb ⟨rfl, hbb⟩
              unfold badV
              have HZb := Lib.hid (HZ.out.later hbb)
              have HBb := Lib.hid (HB.out.trans (hbb.mono HB.out.size))
              obtain ⟨z0, z1, z2, z3, z4, z5⟩ := HZb.out.cells
              obtain ⟨f0, f1, f2, f3, f4, f5⟩ := HZb.out.cells'
              clear hbb
              go_wp2
              have hs := HZb.out.set (.int .i64 0) (.string ⟨#[]⟩) (.int .i64 0) (.slice none 0 0) (.int .i64 0) (.int .i64 5)
              have hb := set6_below HBb.out (b := w.heap.size) (by omega) (.int .i64 0) (.string ⟨#[]⟩) (.int .i64 0) (.slice none 0 0) (.int .i64 0) (.int .i64 5)
              show bodyPost _ _ _ .ret _ (set6 wb (w.heap.size) (.int .i64 0) (.string ⟨#[]⟩) (.int .i64 0) (.slice none 0 0) (.int .i64 0) (.int .i64 5))
              generalize set6 wb (w.heap.size) (.int .i64 0) (.string ⟨#[]⟩) (.int .i64 0) (.slice none 0 0) (.int .i64 0) (.int .i64 5) = wend at hs hb
              exact bodyPost_ret (results_cell rfl rfl (loadRd hs)) rfl ⟨by rw [HR.out]; exact ⟨by decide, rfl⟩, hb⟩
            · have hqn : ((q : Int) == (k0 : Int)) = false := by rw [beq_eq_false_iff_ne]; omega
              have hqm : ¬ (q : Int) = (k0 : Int) := by omega
              have HR : Hid (Rp.endP (-U) (B.drop q) = R) := Lib.hid (by
                rw [← hQ, if_neg (by simp [hqk]), hdr]
                congr 1
                rw [if_pos rfl, Int.toNat_of_nonneg u0])
              clear hdr hc hy hQ hnd hU0 hqk
              have has := endP_as () (-U) (B.drop q)
              go_wp2_with fail
              refine (HEND.out (-U) w1).mono ?_
              rintro e w2 ⟨ho, hb2⟩
              have HZ2 := Lib.hid (HZ.out.later hb2)
              have HB2 := Lib.hid (HB.out.trans (hb2.mono HB.out.size))
              obtain ⟨z0, z1, z2, z3, z4, z5⟩ := HZ2.out.cells
              obtain ⟨f0, f1, f2, f3, f4, f5⟩ := HZ2.out.cells'
              clear hb2
              generalize Rp.endP () (B.drop q) = o at ho has
              cases o with
              | ok u t =>
                simp only at ho has
                have HR2 : Hid (R = .ok ((-U)) t) := Lib.hid (by rw [← HR.out, has])
                subst ho
                clear has HR HEND
                go_wp2
                have hs := HZ2.out.set (.int .i64 0) (.string ⟨#[]⟩) (.int .i64 (-U)) (.slice none 0 0) (.int .i64 ((B.length : Int) - (t.length : Int))) (.int .i64 0)
                have hb := set6_below HB2.out (b := w.heap.size) (by omega) (.int .i64 0) (.string ⟨#[]⟩) (.int .i64 (-U)) (.slice none 0 0) (.int .i64 ((B.length : Int) - (t.length : Int))) (.int .i64 0)
                show bodyPost _ _ _ .ret _ (set6 w2 (w.heap.size) (.int .i64 0) (.string ⟨#[]⟩) (.int .i64 (-U)) (.slice none 0 0) (.int .i64 ((B.length : Int) - (t.length : Int))) (.int .i64 0))
                generalize set6 w2 (w.heap.size) (.int .i64 0) (.string ⟨#[]⟩) (.int .i64 (-U)) (.slice none 0 0) (.int .i64 ((B.length : Int) - (t.length : Int))) (.int .i64 0) = wend at hs hb
                exact bodyPost_ret (results_cell rfl rfl (loadRd hs)) rfl ⟨by rw [HR2.out], hb⟩
              | err c =>
                simp only at ho has
                obtain ⟨hc0, ho⟩ := ho
                have HR2 : Hid (R = .err c) := Lib.hid (by rw [← HR.out, has])
                subst ho
                unfold badV
                clear has HR HEND
                go_wp2
                have hs := HZ2.out.set (.int .i64 0) (.string ⟨#[]⟩) (.int .i64 0) (.slice none 0 0) (.int .i64 0) (.int .i64 c)
                have hb := set6_below HB2.out (b := w.heap.size) (by omega) (.int .i64 0) (.string ⟨#[]⟩) (.int .i64 0) (.slice none 0 0) (.int .i64 0) (.int .i64 c)
                show bodyPost _ _ _ .ret _ (set6 w2 (w.heap.size) (.int .i64 0) (.string ⟨#[]⟩) (.int .i64 0) (.slice none 0 0) (.int .i64 0) (.int .i64 c))
                generalize set6 w2 (w.heap.size) (.int .i64 0) (.string ⟨#[]⟩) (.int .i64 0) (.slice none 0 0) (.int .i64 0) (.int .i64 c) = wend at hs hb
                exact bodyPost_ret (results_cell rfl rfl (loadRd hs)) rfl ⟨by rw [HR2.out]; exact ⟨hc0, rfl⟩, hb⟩
          · have h57p : y ≤ (57 : Int) := by omega
            have hdg : 48 ≤ c.toNat ∧ c.toNat ≤ 57 := by omega
            rw [numL_digit hdg] at hQ
            have hcd : c.toNat - 48 = (y - 48).toNat := by omega
            have wd : IntKind.u8.wrap (y - 48) = y - 48 := by rw [IntKind.wrap_u8]; omega
            have wm : IntKind.u64.wrap ((M : Int) - (y - 48)) = (M : Int) - (y - 48) := by rw [IntKind.wrap_u64]; omega
            obtain ⟨Q, hQq⟩ : ∃ Q, ((M : Int) - (y - 48)) / 10 = Q := ⟨_, rfl⟩
            have hQt : ((M : Int) - (y - 48)).tdiv 10 = Q := by rw [Int.tdiv_eq_ediv_of_nonneg (by omega)]; exact hQq
            have HC48 := Lib.hid (show c.toNat = 48 ↔ y = 48 by omega)
            by_cases hqk : q = k0
            · obtain rfl := hU0 hqk
              rw [decide_eq_true hqk] at hQ
              subst hqk
              have hQ0 : (0 : Int) ≤ Q := by omega
              have hQ0n : ¬ Q < 0 := by omega
              by_cases hy48 : y = 48
              · have HR : Hid (R = .err 5) := Lib.hid (by rw [← hQ, if_pos (.inr (.inl ⟨rfl, rfl, HC48.out.2 hy48⟩))])
                have hd0 : (y - 48 == 0) = true := by simp; omega
                have hd1 : y - 48 = 0 := by omega
                clear hdr hc hy hQ HEND hcd hdg
                go_wp2_with fail
                refine (bad_any 5 w1).mono ?_
                rintro e wb ⟨rfl, hbb⟩
                unfold badV
                have HZb := Lib.hid (HZ.out.later hbb)
                have HBb := Lib.hid (HB.out.trans (hbb.mono HB.out.size))
                obtain ⟨z0, z1, z2, z3, z4, z5⟩ := HZb.out.cells
                obtain ⟨f0, f1, f2, f3, f4, f5⟩ := HZb.out.cells'
                clear hbb
                go_wp2
                have hs := HZb.out.set (.int .i64 0) (.string ⟨#[]⟩) (.int .i64 0) (.slice none 0 0) (.int .i64 0) (.int .i64 5)
                have hb := set6_below HBb.out (b := w.heap.size) (by omega) (.int .i64 0) (.string ⟨#[]⟩) (.int .i64 0) (.slice none 0 0) (.int .i64 0) (.int .i64 5)
                show bodyPost _ _ _ .ret _ (set6 wb (w.heap.size) (.int .i64 0) (.string ⟨#[]⟩) (.int .i64 0) (.slice none 0 0) (.int .i64 0) (.int .i64 5))
                generalize set6 wb (w.heap.size) (.int .i64 0) (.string ⟨#[]⟩) (.int .i64 0) (.slice none 0 0) (.int .i64 0) (.int .i64 5) = wend at hs hb
                exact bodyPost_ret (results_cell rfl rfl (loadRd hs)) rfl ⟨by rw [HR.out]; exact ⟨by decide, rfl⟩, hb⟩
              · have hd0 : (y - 48 == 0) = false := by rw [beq_eq_false_iff_ne]; omega
                have hd1 : ¬ y - 48 = 0 := by omega
                have HQ2 : Hid (Rp.numL true M (decide (q + 1 = q)) (y - 48).toNat (B.drop (q + 1)) = R) := Lib.hid (by
                  rw [← hQ, if_neg (by
                    rintro (h | h | h)
                    · exact absurd h.1 (by decide)
                    · exact hy48 (HC48.out.1 h.2.2)
                    · simp at h; omega), decide_eq_false (by omega), hcd]
                  simp)
                have wS : IntKind.u64.wrap (y - 48) = y - 48 := by rw [IntKind.wrap_u64]; omega
                clear hdr hc hy hQ HEND hcd hdg
                go_wp2_with fail
                go_round
                case rel => exact ⟨q + 1, y - 48, by omega, by omega, by go_num, rfl, by omega, by omega, fun h => by omega, HQ2⟩
                case measure => simp [intOf]; omega
            · rw [decide_eq_false hqk] at hQ
              have hgt : (k0 : Int) < (q : Int) := by omega
              have hqn : ((q : Int) == (k0 : Int)) = false := by rw [beq_eq_false_iff_ne]; omega
              have hqm : ¬ (q : Int) = (k0 : Int) := by omega
              by_cases hUz : U = 0
              · subst hUz
                have HR : Hid (R = .err 5) := Lib.hid (by rw [← hQ, if_pos (.inl ⟨rfl, rfl⟩)])
                clear hdr hc hy hQ HEND hcd hdg hU0 hqk
                go_wp2_with fail
                refine (bad_any 5 w1).mono ?_
                rintro e wb ⟨rfl, hbb⟩
                unfold badV
                have HZb := Lib.hid (HZ.out.later hbb)
                have HBb := Lib.hid (HB.out.trans (hbb.mono HB.out.size))
                obtain ⟨z0, z1, z2, z3, z4, z5⟩ := HZb.out.cells
                obtain ⟨f0, f1, f2, f3, f4, f5⟩ := HZb.out.cells'
                clear hbb
                go_wp2
                have hs := HZb.out.set (.int .i64 0) (.string ⟨#[]⟩) (.int .i64 0) (.slice none 0 0) (.int .i64 0) (.int .i64 5)
                have hb := set6_below HBb.out (b := w.heap.size) (by omega) (.int .i64 0) (.string ⟨#[]⟩) (.int .i64 0) (.slice none 0 0) (.int .i64 0) (.int .i64 5)
                show bodyPost _ _ _ .ret _ (set6 wb (w.heap.size) (.int .i64 0) (.string ⟨#[]⟩) (.int .i64 0) (.slice none 0 0) (.int .i64 0) (.int .i64 5))
                generalize set6 wb (w.heap.size) (.int .i64 0) (.string ⟨#[]⟩) (.int .i64 0) (.slice none 0 0) (.int .i64 0) (.int .i64 5) = wend at hs hb
                exact bodyPost_ret (results_cell rfl rfl (loadRd hs)) rfl ⟨by rw [HR.out]; exact ⟨by decide, rfl⟩, hb⟩
              · have hUb : (U == 0) = false := beq_eq_false_iff_ne.2 hUz
                by_cases hov : Q < U
                · have HR : Hid (R = .err 5) := Lib.hid (by rw [← hQ, if_pos (.inr (.inr (by omega)))])
                  clear hdr hc hy hQ HEND hcd hdg hU0 hqk
                  go_wp2_with fail
                  refine (bad_any 5 w1).mono ?_
                  rintro e wb ⟨rfl, hbb⟩
                  unfold badV
                  have HZb := Lib.hid (HZ.out.later hbb)
                  have HBb := Lib.hid (HB.out.trans (hbb.mono HB.out.size))
                  obtain ⟨z0, z1, z2, z3, z4, z5⟩ := HZb.out.cells
                  obtain ⟨f0, f1, f2, f3, f4, f5⟩ := HZb.out.cells'
                  clear hbb
                  go_wp2
                  have hs := HZb.out.set (.int .i64 0) (.string ⟨#[]⟩) (.int .i64 0) (.slice none 0 0) (.int .i64 0) (.int .i64 5)
                  have hb := set6_below HBb.out (b := w.heap.size) (by omega) (.int .i64 0) (.string ⟨#[]⟩) (.int .i64 0) (.slice none 0 0) (.int .i64 0) (.int .i64 5)
                  show bodyPost _ _ _ .ret _ (set6 wb (w.heap.size) (.int .i64 0) (.string ⟨#[]⟩) (.int .i64 0) (.slice none 0 0) (.int .i64 0) (.int .i64 5))
                  generalize set6 wb (w.heap.size) (.int .i64 0) (.string ⟨#[]⟩) (.int .i64 0) (.slice none 0 0) (.int .i64 0) (.int .i64 5) = wend at hs hb
                  exact bodyPost_ret (results_cell rfl rfl (loadRd hs)) rfl ⟨by rw [HR.out]; exact ⟨by decide, rfl⟩, hb⟩
                · have hovn : decide (Q < U) = false := by rw [decide_eq_false_iff_not]; exact hov
                  have HQ2 : Hid (Rp.numL true M (decide (q + 1 = k0)) (10 * U + (y - 48)).toNat (B.drop (q + 1)) = R) := Lib.hid (by
                    rw [← hQ, if_neg (by
                      rintro (h | h | h)
                      · omega
                      · exact absurd h.2.1 (by decide)
                      · omega), decide_eq_false (by omega), hcd, show (10 * U + (y - 48)).toNat = 10 * U.toNat + (y - 48).toNat by omega])
                  have wT : IntKind.u64.wrap (10 * U) = 10 * U := by rw [IntKind.wrap_u64]; omega
                  have wS : IntKind.u64.wrap (10 * U + (y - 48)) = 10 * U + (y - 48) := by rw [IntKind.wrap_u64]; omega
                  have hle : 10 * U + (y - 48) ≤ (M : Int) := by omega
                  clear hdr hc hy hQ HEND hcd hdg hU0 hqk
                  go_wp2_with fail
                  go_round
                  case rel => exact ⟨q + 1, 10 * U + (y - 48), by omega, by omega, by go_num, rfl, by omega, by omega, fun h => by omega, HQ2⟩
                  case measure => simp [intOf]; omega
      · obtain rfl : q = B.length := by omega
        have h1I : ¬ (B.length : Int) < (B.length : Int) := by omega
        have hQ := HQ.out
        rw [drop_end (Nat.le_refl _), Rp.numL] at hQ
        have HR : Hid (R = .err 6) := Lib.hid hQ.symm
        clear hQ HQ HEND hU0
        go_wp2_with fail
        refine (bad_any 6 w1).mono ?_
        rintro e wb ⟨rfl, hbb⟩
        unfold badV
        have HZb := Lib.hid (HZ.out.later hbb)
        have HBb := Lib.hid (HB.out.trans (hbb.mono HB.out.size))
        obtain ⟨z0, z1, z2, z3, z4, z5⟩ := HZb.out.cells
        obtain ⟨f0, f1, f2, f3, f4, f5⟩ := HZb.out.cells'
        clear hbb
        go_wp2
        have hs := HZb.out.set (.int .i64 0) (.string ⟨#[]⟩) (.int .i64 0) (.slice none 0 0) (.int .i64 0) (.int .i64 6)
        have hb := set6_below HBb.out (b := w.heap.size) (by omega) (.int .i64 0) (.string ⟨#[]⟩) (.int .i64 0) (.slice none 0 0) (.int .i64 0) (.int .i64 6)
        show bodyPost _ _ _ .ret _ (set6 wb (w.heap.size) (.int .i64 0) (.string ⟨#[]⟩) (.int .i64 0) (.slice none 0 0) (.int .i64 0) (.int .i64 6))
        generalize set6 wb (w.heap.size) (.int .i64 0) (.string ⟨#[]⟩) (.int .i64 0) (.slice none 0 0) (.int .i64 0) (.int .i64 6) = wend at hs hb
        exact bodyPost_ret (results_cell rfl rfl (loadRd hs)) rfl ⟨by rw [HR.out]; exact ⟨by decide, rfl⟩, hb⟩
set_option maxRecDepth 100000 in
set_option maxHeartbeats 8000000 in
theorem number_plain (B : List UInt8) (at_ : Nat) (low : Bool) (m : Nat) (w : World) (hl : B.length ≤ 3000) (hi : at_ ≤ B.length) (hm9 : 9 ≤ m) (hm : m ≤ 9223372036854775807) (hh : ¬ (B.drop at_).head? = some 45) :
    Calls Tryz.prog 54 #[.string ⟨B.toArray⟩, .int .i64 (at_ : Int), .bool low, .int .u64 (m : Int)] w (NumbOut B.length w (Rp.refN low m (B.drop at_))) := by
  obtain ⟨w1, hw1⟩ : ∃ w1, w.alloc (.cells #[.int .i64 0, .string ⟨#[]⟩, .int .i64 0, .slice none 0 0, .int .i64 0, .int .i64 0] 51) = w1 := ⟨_, rfl⟩
  have hz : Rd6 w1 w.heap.size (.int .i64 0) (.string ⟨#[]⟩) (.int .i64 0) (.slice none 0 0) (.int .i64 0) (.int .i64 0) := by rw [← hw1]; exact Rd6.new w _ _ _ _ _ _
  have hb1 : Below w.heap.size w w1 := by rw [← hw1]; exact (Below.refl _ w).alloc (Nat.le_refl _) _
  have hsz : w.heap.size < w1.heap.size := by rw [← hw1]; simp
  have HW1 := Lib.hid hw1
  have HZ := Lib.hid hz
  have HB := Lib.hid hb1
  have hlI : (B.length : Int) ≤ 3000 := by omega
  have a0 : (0 : Int) ≤ (at_ : Int) := by omega
  have aL : (at_ : Int) ≤ (B.length : Int) := by omega
  have wa1 : IntKind.i64.wrap ((at_ : Int) + 1) = (at_ : Int) + 1 := IntWalk.i64_in _ (by omega)
  clear hw1 hz hb1
  obtain ⟨k0, hk0⟩ : ∃ k0, at_ = k0 := ⟨_, rfl⟩
  obtain ⟨M, hM⟩ : ∃ M, m = M := ⟨_, rfl⟩
  have HS := Lib.hid (show Rp.numL false M true 0 (B.drop k0) = Rp.refN low m (B.drop at_) by unfold Rp.refN; rw [if_neg hh, hk0, hM])
  subst hk0
  subst hM
  generalize Rp.refN low m (B.drop at_) = R at HS ⊢
  have hkL := hi
  by_cases h1 : at_ < B.length
  · have h1I : (at_ : Int) < (B.length : Int) := by omega
    have hix := idx_at B at_ h1
    have hdr := drop_at h1
    obtain ⟨c0, hc⟩ : ∃ c0, B.getD at_ 0 = c0 := ⟨_, rfl⟩
    rw [hc] at hix hdr
    have hc45 : ¬ c0 = 45 := fun e => hh (by rw [hdr, e]; rfl)
    obtain ⟨y', hy'⟩ : ∃ y' : Int, (c0.toNat : Int) = y' := ⟨_, rfl⟩
    rw [hy'] at hix
    have hy45 : (y' == 45) = false := by rw [beq_eq_false_iff_ne]; intro h; exact hc45 (UInt8.toNat_inj.1 (by have : (45 : UInt8).toNat = 45 := rfl; omega))
    have hy45n : ¬ y' = 45 := beq_eq_false_iff_ne.1 hy45
    clear hdr hc hc45 hy' hh
    go_enter Tryz.func54, Tryz.ntmps54
    go_upto_region 1 with (fail)
    rw [show w.alloc (.cells #[.int .i64 0, .string ⟨#[]⟩, .int .i64 0, .slice none 0 0, .int .i64 0, .int .i64 0] 51) = w1 from HW1.out]
    clear HW1
    go_upto_region 10 with (fail)
    clear hix h1 h1I hy45 hy45n
    go_loop [9, 11, 13] (fun i u _ => ∃ (q : Nat) (U : Int), at_ ≤ q ∧ q ≤ B.length ∧ i = .int .i64 (q : Int) ∧ u = .int .u64 U ∧ 0 ≤ U ∧ U ≤ (m : Int) ∧ (q = at_ → U = 0) ∧ Hid (Rp.numL false m (decide (q = at_)) U.toNat (B.drop q) = R)) (fun i _ _ => (B.length : Int).toNat + 1 - (intOf i).toNat)
    case atStart => exact ⟨at_, 0, Nat.le_refl _, hkL, rfl, rfl, by decide, by omega, fun _ => rfl, Lib.hid (by rw [decide_eq_true rfl]; exact HS.out)⟩
    case round =>
      obtain ⟨q, U, hq0, hq1, rfl, rfl, u0, uM, hU0, HQ⟩ := hrel
      have HEND := Lib.hid (fun n W => end_any B q 0 [] n W hl hq1)
      have q0 : (0 : Int) ≤ (q : Int) := by omega
      have qk : (at_ : Int) ≤ (q : Int) := by omega
      have qL : (q : Int) ≤ (B.length : Int) := by omega
      have wq1 : IntKind.i64.wrap ((q : Int) + 1) = (q : Int) + 1 := IntWalk.i64_in _ (by omega)
      have hX : IntKind.i64.wrap U = U := IntWalk.i64_in _ (by omega)
      by_cases h1 : q < B.length
      · have h1I : (q : Int) < (B.length : Int) := by omega
        have hne : ((q : Int) == (B.length : Int)) = false := by rw [beq_eq_false_iff_ne]; omega
        have hnm : ¬ (q : Int) = (B.length : Int) := by omega
        have hix := idx_at B q h1
        have hdr := drop_at h1
        obtain ⟨c, hc⟩ : ∃ c, B.getD q 0 = c := ⟨_, rfl⟩
        rw [hc] at hdr hix
        obtain ⟨y, hy⟩ : ∃ y : Int, (c.toNat : Int) = y := ⟨_, rfl⟩
        rw [hy] at hix
        have hcb := UInt8.toNat_lt c
        have y0 : 0 ≤ y := by omega
        have y9 : y ≤ 255 := by omega
        have hQ := HQ.out
        rw [hdr] at hQ
        clear HQ hcb
        by_cases h48 : y < 48
        · have h48n : ¬ (48 : Int) ≤ y := by omega
          have hnd : ¬ (48 ≤ c.toNat ∧ c.toNat ≤ 57) := by omega
          rw [numL_other hnd] at hQ
          by_cases hqk : q = at_
          · have HR : Hid (R = .err 5) := Lib.hid (by rw [← hQ, if_pos (by simp [hqk])])
            subst hqk
            clear hdr hc hy hQ hnd HEND hU0
            go_wp2_with fail
            refine (bad_any 5 w1).mono ?_
            rintro e wb ⟨rfl, hbb⟩
            unfold badV
            have HZb := Lib.hid (HZ.out.later hbb)
            have HBb := Lib.hid (HB.out.trans (hbb.mono HB.out.size))
            obtain ⟨z0, z1, z2, z3, z4, z5⟩ := HZb.out.cells
            obtain ⟨f0, f1, f2, f3, f4, f5⟩ := HZb.out.cells'
            clear hbb
            go_wp2
            have hs := HZb.out.set (.int .i64 0) (.string ⟨#[]⟩) (.int .i64 0) (.slice none 0 0) (.int .i64 0) (.int .i64 5)
            have hb := set6_below HBb.out (b := w.heap.size) (by omega) (.int .i64 0) (.string ⟨#[]⟩) (.int .i64 0) (.slice none 0 0) (.int .i64 0) (.int .i64 5)
            show bodyPost _ _ _ .ret _ (set6 wb (w.heap.size) (.int .i64 0) (.string ⟨#[]⟩) (.int .i64 0) (.slice none 0 0) (.int .i64 0) (.int .i64 5))
            generalize set6 wb (w.heap.size) (.int .i64 0) (.string ⟨#[]⟩) (.int .i64 0) (.slice none 0 0) (.int .i64 0) (.int .i64 5) = wend at hs hb
            exact bodyPost_ret (results_cell rfl rfl (loadRd hs)) rfl ⟨by rw [HR.out]; exact ⟨by decide, rfl⟩, hb⟩
          · have hqn : ((q : Int) == (at_ : Int)) = false := by rw [beq_eq_false_iff_ne]; omega
            have hqm : ¬ (q : Int) = (at_ : Int) := by omega
            have HR : Hid (Rp.endP U (B.drop q) = R) := Lib.hid (by
              rw [← hQ, if_neg (by simp [hqk]), hdr]
              congr 1
              rw [if_neg (by decide), Int.toNat_of_nonneg u0])
            clear hdr hc hy hQ hnd hU0 hqk
            have has := endP_as () U (B.drop q)
            go_wp2_with fail
            refine (HEND.out U w1).mono ?_
            rintro e w2 ⟨ho, hb2⟩
            have HZ2 := Lib.hid (HZ.out.later hb2)
            have HB2 := Lib.hid (HB.out.trans (hb2.mono HB.out.size))
            obtain ⟨z0, z1, z2, z3, z4, z5⟩ := HZ2.out.cells
            obtain ⟨f0, f1, f2, f3, f4, f5⟩ := HZ2.out.cells'
            clear hb2
            generalize Rp.endP () (B.drop q) = o at ho has
            cases o with
            | ok u t =>
              simp only at ho has
              have HR2 : Hid (R = .ok (U) t) := Lib.hid (by rw [← HR.out, has])
              subst ho
              clear has HR HEND
              go_wp2
              have hs := HZ2.out.set (.int .i64 0) (.string ⟨#[]⟩) (.int .i64 (U)) (.slice none 0 0) (.int .i64 ((B.length : Int) - (t.length : Int))) (.int .i64 0)
              have hb := set6_below HB2.out (b := w.heap.size) (by omega) (.int .i64 0) (.string ⟨#[]⟩) (.int .i64 (U)) (.slice none 0 0) (.int .i64 ((B.length : Int) - (t.length : Int))) (.int .i64 0)
              show bodyPost _ _ _ .ret _ (set6 w2 (w.heap.size) (.int .i64 0) (.string ⟨#[]⟩) (.int .i64 (U)) (.slice none 0 0) (.int .i64 ((B.length : Int) - (t.length : Int))) (.int .i64 0))
              generalize set6 w2 (w.heap.size) (.int .i64 0) (.string ⟨#[]⟩) (.int .i64 (U)) (.slice none 0 0) (.int .i64 ((B.length : Int) - (t.length : Int))) (.int .i64 0) = wend at hs hb
              exact bodyPost_ret (results_cell rfl rfl (loadRd hs)) rfl ⟨by rw [HR2.out], hb⟩
            | err c =>
              simp only at ho has
              obtain ⟨hc0, ho⟩ := ho
              have HR2 : Hid (R = .err c) := Lib.hid (by rw [← HR.out, has])
              subst ho
              unfold badV
              clear has HR HEND
              go_wp2
              have hs := HZ2.out.set (.int .i64 0) (.string ⟨#[]⟩) (.int .i64 0) (.slice none 0 0) (.int .i64 0) (.int .i64 c)
              have hb := set6_below HB2.out (b := w.heap.size) (by omega) (.int .i64 0) (.string ⟨#[]⟩) (.int .i64 0) (.slice none 0 0) (.int .i64 0) (.int .i64 c)
              show bodyPost _ _ _ .ret _ (set6 w2 (w.heap.size) (.int .i64 0) (.string ⟨#[]⟩) (.int .i64 0) (.slice none 0 0) (.int .i64 0) (.int .i64 c))
              generalize set6 w2 (w.heap.size) (.int .i64 0) (.string ⟨#[]⟩) (.int .i64 0) (.slice none 0 0) (.int .i64 0) (.int .i64 c) = wend at hs hb
              exact bodyPost_ret (results_cell rfl rfl (loadRd hs)) rfl ⟨by rw [HR2.out]; exact ⟨hc0, rfl⟩, hb⟩
        · have h48p : (48 : Int) ≤ y := by omega
          by_cases h57 : 57 < y
          · have h57n : ¬ y ≤ (57 : Int) := by omega
            have hnd : ¬ (48 ≤ c.toNat ∧ c.toNat ≤ 57) := by omega
            rw [numL_other hnd] at hQ
            by_cases hqk : q = at_
            · have HR : Hid (R = .err 5) := Lib.hid (by rw [← hQ, if_pos (by simp [hqk])])
              subst hqk
              clear hdr hc hy hQ hnd HEND hU0
              go_wp2_with fail
              refine (bad_any 5 w1).mono ?_
              rintro e wb ⟨rfl, hbb⟩
              unfold badV
              have HZb := Lib.hid (HZ.out.later hbb)
              have HBb := Lib.hid (HB.out.trans (hbb.mono HB.out.size))
              obtain ⟨z0, z1, z2, z3, z4, z5⟩ := HZb.out.cells
              obtain ⟨f0, f1, f2, f3, f4, f5⟩ := HZb.out.cells'
              clear hbb
              go_wp2
              have hs := HZb.out.set (.int .i64 0) (.string ⟨#[]⟩) (.int .i64 0) (.slice none 0 0) (.int .i64 0) (.int .i64 5)
              have hb := set6_below HBb.out (b := w.heap.size) (by omega) (.int .i64 0) (.string ⟨#[]⟩) (.int .i64 0) (.slice none 0 0) (.int .i64 0) (.int .i64 5)
              show bodyPost _ _ _ .ret _ (set6 wb (w.heap.size) (.int .i64 0) (.string ⟨#[]⟩) (.int .i64 0) (.slice none 0 0) (.int .i64 0) (.int .i64 5))
              generalize set6 wb (w.heap.size) (.int .i64 0) (.string ⟨#[]⟩) (.int .i64 0) (.slice none 0 0) (.int .i64 0) (.int .i64 5) = wend at hs hb
              exact bodyPost_ret (results_cell rfl rfl (loadRd hs)) rfl ⟨by rw [HR.out]; exact ⟨by decide, rfl⟩, hb⟩
            · have hqn : ((q : Int) == (at_ : Int)) = false := by rw [beq_eq_false_iff_ne]; omega
              have hqm : ¬ (q : Int) = (at_ : Int) := by omega
              have HR : Hid (Rp.endP U (B.drop q) = R) := Lib.hid (by
                rw [← hQ, if_neg (by simp [hqk]), hdr]
                congr 1
                rw [if_neg (by decide), Int.toNat_of_nonneg u0])
              clear hdr hc hy hQ hnd hU0 hqk
              have has := endP_as () U (B.drop q)
              go_wp2_with fail
              refine (HEND.out U w1).mono ?_
              rintro e w2 ⟨ho, hb2⟩
              have HZ2 := Lib.hid (HZ.out.later hb2)
              have HB2 := Lib.hid (HB.out.trans (hb2.mono HB.out.size))
              obtain ⟨z0, z1, z2, z3, z4, z5⟩ := HZ2.out.cells
              obtain ⟨f0, f1, f2, f3, f4, f5⟩ := HZ2.out.cells'
              clear hb2
              generalize Rp.endP () (B.drop q) = o at ho has
              cases o with
              | ok u t =>
                simp only at ho has
                have HR2 : Hid (R = .ok (U) t) := Lib.hid (by rw [← HR.out, has])
                subst ho
                clear has HR HEND
                go_wp2
                have hs := HZ2.out.set (.int .i64 0) (.string ⟨#[]⟩) (.int .i64 (U)) (.slice none 0 0) (.int .i64 ((B.length : Int) - (t.length : Int))) (.int .i64 0)
                have hb := set6_below HB2.out (b := w.heap.size) (by omega) (.int .i64 0) (.string ⟨#[]⟩) (.int .i64 (U)) (.slice none 0 0) (.int .i64 ((B.length : Int) - (t.length : Int))) (.int .i64 0)
                show bodyPost _ _ _ .ret _ (set6 w2 (w.heap.size) (.int .i64 0) (.string ⟨#[]⟩) (.int .i64 (U)) (.slice none 0 0) (.int .i64 ((B.length : Int) - (t.length : Int))) (.int .i64 0))
                generalize set6 w2 (w.heap.size) (.int .i64 0) (.string ⟨#[]⟩) (.int .i64 (U)) (.slice none 0 0) (.int .i64 ((B.length : Int) - (t.length : Int))) (.int .i64 0) = wend at hs hb
                exact bodyPost_ret (results_cell rfl rfl (loadRd hs)) rfl ⟨by rw [HR2.out], hb⟩
              | err c =>
                simp only at ho has
                obtain ⟨hc0, ho⟩ := ho
                have HR2 : Hid (R = .err c) := Lib.hid (by rw [← HR.out, has])
                subst ho
                unfold badV
                clear has HR HEND
                go_wp2
                have hs := HZ2.out.set (.int .i64 0) (.string ⟨#[]⟩) (.int .i64 0) (.slice none 0 0) (.int .i64 0) (.int .i64 c)
                have hb := set6_below HB2.out (b := w.heap.size) (by omega) (.int .i64 0) (.string ⟨#[]⟩) (.int .i64 0) (.slice none 0 0) (.int .i64 0) (.int .i64 c)
                show bodyPost _ _ _ .ret _ (set6 w2 (w.heap.size) (.int .i64 0) (.string ⟨#[]⟩) (.int .i64 0) (.slice none 0 0) (.int .i64 0) (.int .i64 c))
                generalize set6 w2 (w.heap.size) (.int .i64 0) (.string ⟨#[]⟩) (.int .i64 0) (.slice none 0 0) (.int .i64 0) (.int .i64 c) = wend at hs hb
                exact bodyPost_ret (results_cell rfl rfl (loadRd hs)) rfl ⟨by rw [HR2.out]; exact ⟨hc0, rfl⟩, hb⟩
          · have h57p : y ≤ (57 : Int) := by omega
            have hdg : 48 ≤ c.toNat ∧ c.toNat ≤ 57 := by omega
            rw [numL_digit hdg] at hQ
            have hcd : c.toNat - 48 = (y - 48).toNat := by omega
            have wd : IntKind.u8.wrap (y - 48) = y - 48 := by rw [IntKind.wrap_u8]; omega
            have wm : IntKind.u64.wrap ((m : Int) - (y - 48)) = (m : Int) - (y - 48) := by rw [IntKind.wrap_u64]; omega
            obtain ⟨Q, hQq⟩ : ∃ Q, ((m : Int) - (y - 48)) / 10 = Q := ⟨_, rfl⟩
            have hQt : ((m : Int) - (y - 48)).tdiv 10 = Q := by rw [Int.tdiv_eq_ediv_of_nonneg (by omega)]; exact hQq
            have HC48 := Lib.hid (show c.toNat = 48 ↔ y = 48 by omega)
            by_cases hqk : q = at_
            · obtain rfl := hU0 hqk
              rw [decide_eq_true hqk] at hQ
              subst hqk
              have hQ0 : (0 : Int) ≤ Q := by omega
              have hQ0n : ¬ Q < 0 := by omega
              have HQ2 : Hid (Rp.numL false m (decide (q + 1 = q)) (y - 48).toNat (B.drop (q + 1)) = R) := Lib.hid (by
                rw [← hQ, if_neg (by
                  rintro (h | h | h)
                  · exact absurd h.1 (by decide)
                  · exact absurd h.1 (by decide)
                  · simp at h; omega), decide_eq_false (by omega), hcd]
                simp)
              have wS : IntKind.u64.wrap (y - 48) = y - 48 := by rw [IntKind.wrap_u64]; omega
              clear hdr hc hy hQ HEND hcd hdg
              go_wp2_with fail
              go_round
              case rel => exact ⟨q + 1, y - 48, by omega, by omega, by go_num, rfl, by omega, by omega, fun h => by omega, HQ2⟩
              case measure => simp [intOf]; omega
            · rw [decide_eq_false hqk] at hQ
              have hgt : (at_ : Int) < (q : Int) := by omega
              have hqn : ((q : Int) == (at_ : Int)) = false := by rw [beq_eq_false_iff_ne]; omega
              have hqm : ¬ (q : Int) = (at_ : Int) := by omega
              by_cases hUz : U = 0
              · subst hUz
                have HR : Hid (R = .err 5) := Lib.hid (by rw [← hQ, if_pos (.inl ⟨rfl, rfl⟩)])
                clear hdr hc hy hQ HEND hcd hdg hU0 hqk
                go_wp2_with fail
                refine (bad_any 5 w1).mono ?_
                rintro e wb ⟨rfl, hbb⟩
                unfold badV
                have HZb := Lib.hid (HZ.out.later hbb)
                have HBb := Lib.hid (HB.out.trans (hbb.mono HB.out.size))
                obtain ⟨z0, z1, z2, z3, z4, z5⟩ := HZb.out.cells
                obtain ⟨f0, f1, f2, f3, f4, f5⟩ := HZb.out.cells'
                clear hbb
                go_wp2
                have hs := HZb.out.set (.int .i64 0) (.string ⟨#[]⟩) (.int .i64 0) (.slice none 0 0) (.int .i64 0) (.int .i64 5)
                have hb := set6_below HBb.out (b := w.heap.size) (by omega) (.int .i64 0) (.string ⟨#[]⟩) (.int .i64 0) (.slice none 0 0) (.int .i64 0) (.int .i64 5)
                show bodyPost _ _ _ .ret _ (set6 wb (w.heap.size) (.int .i64 0) (.string ⟨#[]⟩) (.int .i64 0) (.slice none 0 0) (.int .i64 0) (.int .i64 5))
                generalize set6 wb (w.heap.size) (.int .i64 0) (.string ⟨#[]⟩) (.int .i64 0) (.slice none 0 0) (.int .i64 0) (.int .i64 5) = wend at hs hb
                exact bodyPost_ret (results_cell rfl rfl (loadRd hs)) rfl ⟨by rw [HR.out]; exact ⟨by decide, rfl⟩, hb⟩
              · have hUb : (U == 0) = false := beq_eq_false_iff_ne.2 hUz
                by_cases hov : Q < U
                · have HR : Hid (R = .err 5) := Lib.hid (by rw [← hQ, if_pos (.inr (.inr (by omega)))])
                  clear hdr hc hy hQ HEND hcd hdg hU0 hqk
                  go_wp2_with fail
                  refine (bad_any 5 w1).mono ?_
                  rintro e wb ⟨rfl, hbb⟩
                  unfold badV
                  have HZb := Lib.hid (HZ.out.later hbb)
                  have HBb := Lib.hid (HB.out.trans (hbb.mono HB.out.size))
                  obtain ⟨z0, z1, z2, z3, z4, z5⟩ := HZb.out.cells
                  obtain ⟨f0, f1, f2, f3, f4, f5⟩ := HZb.out.cells'
                  clear hbb
                  go_wp2
                  have hs := HZb.out.set (.int .i64 0) (.string ⟨#[]⟩) (.int .i64 0) (.slice none 0 0) (.int .i64 0) (.int .i64 5)
                  have hb := set6_below HBb.out (b := w.heap.size) (by omega) (.int .i64 0) (.string ⟨#[]⟩) (.int .i64 0) (.slice none 0 0) (.int .i64 0) (.int .i64 5)
                  show bodyPost _ _ _ .ret _ (set6 wb (w.heap.size) (.int .i64 0) (.string ⟨#[]⟩) (.int .i64 0) (.slice none 0 0) (.int .i64 0) (.int .i64 5))
                  generalize set6 wb (w.heap.size) (.int .i64 0) (.string ⟨#[]⟩) (.int .i64 0) (.slice none 0 0) (.int .i64 0) (.int .i64 5) = wend at hs hb
                  exact bodyPost_ret (results_cell rfl rfl (loadRd hs)) rfl ⟨by rw [HR.out]; exact ⟨by decide, rfl⟩, hb⟩
                · have hovn : decide (Q < U) = false := by rw [decide_eq_false_iff_not]; exact hov
                  have HQ2 : Hid (Rp.numL false m (decide (q + 1 = at_)) (10 * U + (y - 48)).toNat (B.drop (q + 1)) = R) := Lib.hid (by
                    rw [← hQ, if_neg (by
                      rintro (h | h | h)
                      · omega
                      · exact absurd h.2.1 (by decide)
                      · omega), decide_eq_false (by omega), hcd, show (10 * U + (y - 48)).toNat = 10 * U.toNat + (y - 48).toNat by omega])
                  have wT : IntKind.u64.wrap (10 * U) = 10 * U := by rw [IntKind.wrap_u64]; omega
                  have wS : IntKind.u64.wrap (10 * U + (y - 48)) = 10 * U + (y - 48) := by rw [IntKind.wrap_u64]; omega
                  have hle : 10 * U + (y - 48) ≤ (m : Int) := by omega
                  clear hdr hc hy hQ HEND hcd hdg hU0 hqk
                  go_wp2_with fail
                  go_round
                  case rel => exact ⟨q + 1, 10 * U + (y - 48), by omega, by omega, by go_num, rfl, by omega, by omega, fun h => by omega, HQ2⟩
                  case measure => simp [intOf]; omega
      · obtain rfl : q = B.length := by omega
        have h1I : ¬ (B.length : Int) < (B.length : Int) := by omega
        have hQ := HQ.out
        rw [drop_end (Nat.le_refl _), Rp.numL] at hQ
        have HR : Hid (R = .err 6) := Lib.hid hQ.symm
        clear hQ HQ HEND hU0
        go_wp2_with fail
        refine (bad_any 6 w1).mono ?_
        rintro e wb ⟨rfl, hbb⟩
        unfold badV
        have HZb := Lib.hid (HZ.out.later hbb)
        have HBb := Lib.hid (HB.out.trans (hbb.mono HB.out.size))
        obtain ⟨z0, z1, z2, z3, z4, z5⟩ := HZb.out.cells
        obtain ⟨f0, f1, f2, f3, f4, f5⟩ := HZb.out.cells'
        clear hbb
        go_wp2
        have hs := HZb.out.set (.int .i64 0) (.string ⟨#[]⟩) (.int .i64 0) (.slice none 0 0) (.int .i64 0) (.int .i64 6)
        have hb := set6_below HBb.out (b := w.heap.size) (by omega) (.int .i64 0) (.string ⟨#[]⟩) (.int .i64 0) (.slice none 0 0) (.int .i64 0) (.int .i64 6)
        show bodyPost _ _ _ .ret _ (set6 wb (w.heap.size) (.int .i64 0) (.string ⟨#[]⟩) (.int .i64 0) (.slice none 0 0) (.int .i64 0) (.int .i64 6))
        generalize set6 wb (w.heap.size) (.int .i64 0) (.string ⟨#[]⟩) (.int .i64 0) (.slice none 0 0) (.int .i64 0) (.int .i64 6) = wend at hs hb
        exact bodyPost_ret (results_cell rfl rfl (loadRd hs)) rfl ⟨by rw [HR.out]; exact ⟨by decide, rfl⟩, hb⟩
  · have h1I : ¬ (at_ : Int) < (B.length : Int) := by omega
    clear hh
    go_enter Tryz.func54, Tryz.ntmps54
    go_upto_region 1 with (fail)
    rw [show w.alloc (.cells #[.int .i64 0, .string ⟨#[]⟩, .int .i64 0, .slice none 0 0, .int .i64 0, .int .i64 0] 51) = w1 from HW1.out]
    clear HW1
    go_upto_region 10 with (fail)
    clear h1 h1I
    go_loop [9, 11, 13] (fun i u _ => ∃ (q : Nat) (U : Int), at_ ≤ q ∧ q ≤ B.length ∧ i = .int .i64 (q : Int) ∧ u = .int .u64 U ∧ 0 ≤ U ∧ U ≤ (m : Int) ∧ (q = at_ → U = 0) ∧ Hid (Rp.numL false m (decide (q = at_)) U.toNat (B.drop q) = R)) (fun i _ _ => (B.length : Int).toNat + 1 - (intOf i).toNat)
    case atStart => exact ⟨at_, 0, Nat.le_refl _, hkL, rfl, rfl, by decide, by omega, fun _ => rfl, Lib.hid (by rw [decide_eq_true rfl]; exact HS.out)⟩
    case round =>
      obtain ⟨q, U, hq0, hq1, rfl, rfl, u0, uM, hU0, HQ⟩ := hrel
      have HEND := Lib.hid (fun n W => end_any B q 0 [] n W hl hq1)
      have q0 : (0 : Int) ≤ (q : Int) := by omega
      have qk : (at_ : Int) ≤ (q : Int) := by omega
      have qL : (q : Int) ≤ (B.length : Int) := by omega
      have wq1 : IntKind.i64.wrap ((q : Int) + 1) = (q : Int) + 1 := IntWalk.i64_in _ (by omega)
      have hX : IntKind.i64.wrap U = U := IntWalk.i64_in _ (by omega)
      by_cases h1 : q < B.length
      · have h1I : (q : Int) < (B.length : Int) := by omega
        have hne : ((q : Int) == (B.length : Int)) = false := by rw [beq_eq_false_iff_ne]; omega
        have hnm : ¬ (q : Int) = (B.length : Int) := by omega
        have hix := idx_at B q h1
        have hdr := drop_at h1
        obtain ⟨c, hc⟩ : ∃ c, B.getD q 0 = c := ⟨_, rfl⟩
        rw [hc] at hdr hix
        obtain ⟨y, hy⟩ : ∃ y : Int, (c.toNat : Int) = y := ⟨_, rfl⟩
        rw [hy] at hix
        have hcb := UInt8.toNat_lt c
        have y0 : 0 ≤ y := by omega
        have y9 : y ≤ 255 := by omega
        have hQ := HQ.out
        rw [hdr] at hQ
        clear HQ hcb
        by_cases h48 : y < 48
        · have h48n : ¬ (48 : Int) ≤ y := by omega
          have hnd : ¬ (48 ≤ c.toNat ∧ c.toNat ≤ 57) := by omega
          rw [numL_other hnd] at hQ
          by_cases hqk : q = at_
          · have HR : Hid (R = .err 5) := Lib.hid (by rw [← hQ, if_pos (by simp [hqk])])
            subst hqk
            clear hdr hc hy hQ hnd HEND hU0
            go_wp2_with fail
            refine (bad_any 5 w1).mono ?_
            rintro e wb ⟨rfl, hbb⟩
            unfold badV
            have HZb := Lib.hid (HZ.out.later hbb)
            have HBb := Lib.hid (HB.out.trans (hbb.mono HB.out.size))
            obtain ⟨z0, z1, z2, z3, z4, z5⟩ := HZb.out.cells
            obtain ⟨f0, f1, f2, f3, f4, f5⟩ := HZb.out.cells'
            clear hbb
            go_wp2
            have hs := HZb.out.set (.int .i64 0) (.string ⟨#[]⟩) (.int .i64 0) (.slice none 0 0) (.int .i64 0) (.int .i64 5)
            have hb := set6_below HBb.out (b := w.heap.size) (by omega) (.int .i64 0) (.string ⟨#[]⟩) (.int .i64 0) (.slice none 0 0) (.int .i64 0) (.int .i64 5)
            show bodyPost _ _ _ .ret _ (set6 wb (w.heap.size) (.int .i64 0) (.string ⟨#[]⟩) (.int .i64 0) (.slice none 0 0) (.int .i64 0) (.int .i64 5))
            generalize set6 wb (w.heap.size) (.int .i64 0) (.string ⟨#[]⟩) (.int .i64 0) (.slice none 0 0) (.int .i64 0) (.int .i64 5) = wend at hs hb
            exact bodyPost_ret (results_cell rfl rfl (loadRd hs)) rfl ⟨by rw [HR.out]; exact ⟨by decide, rfl⟩, hb⟩
          · have hqn : ((q : Int) == (at_ : Int)) = false := by rw [beq_eq_false_iff_ne]; omega
            have hqm : ¬ (q : Int) = (at_ : Int) := by omega
            have HR : Hid (Rp.endP U (B.drop q) = R) := Lib.hid (by
              rw [← hQ, if_neg (by simp [hqk]), hdr]
              congr 1
              rw [if_neg (by decide), Int.toNat_of_nonneg u0])
            clear hdr hc hy hQ hnd hU0 hqk
            have has := endP_as () U (B.drop q)
            go_wp2_with fail
            refine (HEND.out U w1).mono ?_
            rintro e w2 ⟨ho, hb2⟩
            have HZ2 := Lib.hid (HZ.out.later hb2)
            have HB2 := Lib.hid (HB.out.trans (hb2.mono HB.out.size))
            obtain ⟨z0, z1, z2, z3, z4, z5⟩ := HZ2.out.cells
            obtain ⟨f0, f1, f2, f3, f4, f5⟩ := HZ2.out.cells'
            clear hb2
            generalize Rp.endP () (B.drop q) = o at ho has
            cases o with
            | ok u t =>
              simp only at ho has
              have HR2 : Hid (R = .ok (U) t) := Lib.hid (by rw [← HR.out, has])
              subst ho
              clear has HR HEND
              go_wp2
              have hs := HZ2.out.set (.int .i64 0) (.string ⟨#[]⟩) (.int .i64 (U)) (.slice none 0 0) (.int .i64 ((B.length : Int) - (t.length : Int))) (.int .i64 0)
              have hb := set6_below HB2.out (b := w.heap.size) (by omega) (.int .i64 0) (.string ⟨#[]⟩) (.int .i64 (U)) (.slice none 0 0) (.int .i64 ((B.length : Int) - (t.length : Int))) (.int .i64 0)
              show bodyPost _ _ _ .ret _ (set6 w2 (w.heap.size) (.int .i64 0) (.string ⟨#[]⟩) (.int .i64 (U)) (.slice none 0 0) (.int .i64 ((B.length : Int) - (t.length : Int))) (.int .i64 0))
              generalize set6 w2 (w.heap.size) (.int .i64 0) (.string ⟨#[]⟩) (.int .i64 (U)) (.slice none 0 0) (.int .i64 ((B.length : Int) - (t.length : Int))) (.int .i64 0) = wend at hs hb
              exact bodyPost_ret (results_cell rfl rfl (loadRd hs)) rfl ⟨by rw [HR2.out], hb⟩
            | err c =>
              simp only at ho has
              obtain ⟨hc0, ho⟩ := ho
              have HR2 : Hid (R = .err c) := Lib.hid (by rw [← HR.out, has])
              subst ho
              unfold badV
              clear has HR HEND
              go_wp2
              have hs := HZ2.out.set (.int .i64 0) (.string ⟨#[]⟩) (.int .i64 0) (.slice none 0 0) (.int .i64 0) (.int .i64 c)
              have hb := set6_below HB2.out (b := w.heap.size) (by omega) (.int .i64 0) (.string ⟨#[]⟩) (.int .i64 0) (.slice none 0 0) (.int .i64 0) (.int .i64 c)
              show bodyPost _ _ _ .ret _ (set6 w2 (w.heap.size) (.int .i64 0) (.string ⟨#[]⟩) (.int .i64 0) (.slice none 0 0) (.int .i64 0) (.int .i64 c))
              generalize set6 w2 (w.heap.size) (.int .i64 0) (.string ⟨#[]⟩) (.int .i64 0) (.slice none 0 0) (.int .i64 0) (.int .i64 c) = wend at hs hb
              exact bodyPost_ret (results_cell rfl rfl (loadRd hs)) rfl ⟨by rw [HR2.out]; exact ⟨hc0, rfl⟩, hb⟩
        · have h48p : (48 : Int) ≤ y := by omega
          by_cases h57 : 57 < y
          · have h57n : ¬ y ≤ (57 : Int) := by omega
            have hnd : ¬ (48 ≤ c.toNat ∧ c.toNat ≤ 57) := by omega
            rw [numL_other hnd] at hQ
            by_cases hqk : q = at_
            · have HR : Hid (R = .err 5) := Lib.hid (by rw [← hQ, if_pos (by simp [hqk])])
              subst hqk
              clear hdr hc hy hQ hnd HEND hU0
              go_wp2_with fail
              refine (bad_any 5 w1).mono ?_
              rintro e wb ⟨rfl, hbb⟩
              unfold badV
              have HZb := Lib.hid (HZ.out.later hbb)
              have HBb := Lib.hid (HB.out.trans (hbb.mono HB.out.size))
              obtain ⟨z0, z1, z2, z3, z4, z5⟩ := HZb.out.cells
              obtain ⟨f0, f1, f2, f3, f4, f5⟩ := HZb.out.cells'
              clear hbb
              go_wp2
              have hs := HZb.out.set (.int .i64 0) (.string ⟨#[]⟩) (.int .i64 0) (.slice none 0 0) (.int .i64 0) (.int .i64 5)
              have hb := set6_below HBb.out (b := w.heap.size) (by omega) (.int .i64 0) (.string ⟨#[]⟩) (.int .i64 0) (.slice none 0 0) (.int .i64 0) (.int .i64 5)
              show bodyPost _ _ _ .ret _ (set6 wb (w.heap.size) (.int .i64 0) (.string ⟨#[]⟩) (.int .i64 0) (.slice none 0 0) (.int .i64 0) (.int .i64 5))
              generalize set6 wb (w.heap.size) (.int .i64 0) (.string ⟨#[]⟩) (.int .i64 0) (.slice none 0 0) (.int .i64 0) (.int .i64 5) = wend at hs hb
              exact bodyPost_ret (results_cell rfl rfl (loadRd hs)) rfl ⟨by rw [HR.out]; exact ⟨by decide, rfl⟩, hb⟩
            · have hqn : ((q : Int) == (at_ : Int)) = false := by rw [beq_eq_false_iff_ne]; omega
              have hqm : ¬ (q : Int) = (at_ : Int) := by omega
              have HR : Hid (Rp.endP U (B.drop q) = R) := Lib.hid (by
                rw [← hQ, if_neg (by simp [hqk]), hdr]
                congr 1
                rw [if_neg (by decide), Int.toNat_of_nonneg u0])
              clear hdr hc hy hQ hnd hU0 hqk
              have has := endP_as () U (B.drop q)
              go_wp2_with fail
              refine (HEND.out U w1).mono ?_
              rintro e w2 ⟨ho, hb2⟩
              have HZ2 := Lib.hid (HZ.out.later hb2)
              have HB2 := Lib.hid (HB.out.trans (hb2.mono HB.out.size))
              obtain ⟨z0, z1, z2, z3, z4, z5⟩ := HZ2.out.cells
              obtain ⟨f0, f1, f2, f3, f4, f5⟩ := HZ2.out.cells'
              clear hb2
              generalize Rp.endP () (B.drop q) = o at ho has
              cases o with
              | ok u t =>
                simp only at ho has
                have HR2 : Hid (R = .ok (U) t) := Lib.hid (by rw [← HR.out, has])
                subst ho
                clear has HR HEND
                go_wp2
                have hs := HZ2.out.set (.int .i64 0) (.string ⟨#[]⟩) (.int .i64 (U)) (.slice none 0 0) (.int .i64 ((B.length : Int) - (t.length : Int))) (.int .i64 0)
                have hb := set6_below HB2.out (b := w.heap.size) (by omega) (.int .i64 0) (.string ⟨#[]⟩) (.int .i64 (U)) (.slice none 0 0) (.int .i64 ((B.length : Int) - (t.length : Int))) (.int .i64 0)
                show bodyPost _ _ _ .ret _ (set6 w2 (w.heap.size) (.int .i64 0) (.string ⟨#[]⟩) (.int .i64 (U)) (.slice none 0 0) (.int .i64 ((B.length : Int) - (t.length : Int))) (.int .i64 0))
                generalize set6 w2 (w.heap.size) (.int .i64 0) (.string ⟨#[]⟩) (.int .i64 (U)) (.slice none 0 0) (.int .i64 ((B.length : Int) - (t.length : Int))) (.int .i64 0) = wend at hs hb
                exact bodyPost_ret (results_cell rfl rfl (loadRd hs)) rfl ⟨by rw [HR2.out], hb⟩
              | err c =>
                simp only at ho has
                obtain ⟨hc0, ho⟩ := ho
                have HR2 : Hid (R = .err c) := Lib.hid (by rw [← HR.out, has])
                subst ho
                unfold badV
                clear has HR HEND
                go_wp2
                have hs := HZ2.out.set (.int .i64 0) (.string ⟨#[]⟩) (.int .i64 0) (.slice none 0 0) (.int .i64 0) (.int .i64 c)
                have hb := set6_below HB2.out (b := w.heap.size) (by omega) (.int .i64 0) (.string ⟨#[]⟩) (.int .i64 0) (.slice none 0 0) (.int .i64 0) (.int .i64 c)
                show bodyPost _ _ _ .ret _ (set6 w2 (w.heap.size) (.int .i64 0) (.string ⟨#[]⟩) (.int .i64 0) (.slice none 0 0) (.int .i64 0) (.int .i64 c))
                generalize set6 w2 (w.heap.size) (.int .i64 0) (.string ⟨#[]⟩) (.int .i64 0) (.slice none 0 0) (.int .i64 0) (.int .i64 c) = wend at hs hb
                exact bodyPost_ret (results_cell rfl rfl (loadRd hs)) rfl ⟨by rw [HR2.out]; exact ⟨hc0, rfl⟩, hb⟩
          · have h57p : y ≤ (57 : Int) := by omega
            have hdg : 48 ≤ c.toNat ∧ c.toNat ≤ 57 := by omega
            rw [numL_digit hdg] at hQ
            have hcd : c.toNat - 48 = (y - 48).toNat := by omega
            have wd : IntKind.u8.wrap (y - 48) = y - 48 := by rw [IntKind.wrap_u8]; omega
            have wm : IntKind.u64.wrap ((m : Int) - (y - 48)) = (m : Int) - (y - 48) := by rw [IntKind.wrap_u64]; omega
            obtain ⟨Q, hQq⟩ : ∃ Q, ((m : Int) - (y - 48)) / 10 = Q := ⟨_, rfl⟩
            have hQt : ((m : Int) - (y - 48)).tdiv 10 = Q := by rw [Int.tdiv_eq_ediv_of_nonneg (by omega)]; exact hQq
            have HC48 := Lib.hid (show c.toNat = 48 ↔ y = 48 by omega)
            by_cases hqk : q = at_
            · obtain rfl := hU0 hqk
              rw [decide_eq_true hqk] at hQ
              subst hqk
              have hQ0 : (0 : Int) ≤ Q := by omega
              have hQ0n : ¬ Q < 0 := by omega
              have HQ2 : Hid (Rp.numL false m (decide (q + 1 = q)) (y - 48).toNat (B.drop (q + 1)) = R) := Lib.hid (by
                rw [← hQ, if_neg (by
                  rintro (h | h | h)
                  · exact absurd h.1 (by decide)
                  · exact absurd h.1 (by decide)
                  · simp at h; omega), decide_eq_false (by omega), hcd]
                simp)
              have wS : IntKind.u64.wrap (y - 48) = y - 48 := by rw [IntKind.wrap_u64]; omega
              clear hdr hc hy hQ HEND hcd hdg
              go_wp2_with fail
              go_round
              case rel => exact ⟨q + 1, y - 48, by omega, by omega, by go_num, rfl, by omega, by omega, fun h => by omega, HQ2⟩
              case measure => simp [intOf]; omega
            · rw [decide_eq_false hqk] at hQ
              have hgt : (at_ : Int) < (q : Int) := by omega
              have hqn : ((q : Int) == (at_ : Int)) = false := by rw [beq_eq_false_iff_ne]; omega
              have hqm : ¬ (q : Int) = (at_ : Int) := by omega
              by_cases hUz : U = 0
              · subst hUz
                have HR : Hid (R = .err 5) := Lib.hid (by rw [← hQ, if_pos (.inl ⟨rfl, rfl⟩)])
                clear hdr hc hy hQ HEND hcd hdg hU0 hqk
                go_wp2_with fail
                refine (bad_any 5 w1).mono ?_
                rintro e wb ⟨rfl, hbb⟩
                unfold badV
                have HZb := Lib.hid (HZ.out.later hbb)
                have HBb := Lib.hid (HB.out.trans (hbb.mono HB.out.size))
                obtain ⟨z0, z1, z2, z3, z4, z5⟩ := HZb.out.cells
                obtain ⟨f0, f1, f2, f3, f4, f5⟩ := HZb.out.cells'
                clear hbb
                go_wp2
                have hs := HZb.out.set (.int .i64 0) (.string ⟨#[]⟩) (.int .i64 0) (.slice none 0 0) (.int .i64 0) (.int .i64 5)
                have hb := set6_below HBb.out (b := w.heap.size) (by omega) (.int .i64 0) (.string ⟨#[]⟩) (.int .i64 0) (.slice none 0 0) (.int .i64 0) (.int .i64 5)
                show bodyPost _ _ _ .ret _ (set6 wb (w.heap.size) (.int .i64 0) (.string ⟨#[]⟩) (.int .i64 0) (.slice none 0 0) (.int .i64 0) (.int .i64 5))
                generalize set6 wb (w.heap.size) (.int .i64 0) (.string ⟨#[]⟩) (.int .i64 0) (.slice none 0 0) (.int .i64 0) (.int .i64 5) = wend at hs hb
                exact bodyPost_ret (results_cell rfl rfl (loadRd hs)) rfl ⟨by rw [HR.out]; exact ⟨by decide, rfl⟩, hb⟩
              · have hUb : (U == 0) = false := beq_eq_false_iff_ne.2 hUz
                by_cases hov : Q < U
                · have HR : Hid (R = .err 5) := Lib.hid (by rw [← hQ, if_pos (.inr (.inr (by omega)))])
                  clear hdr hc hy hQ HEND hcd hdg hU0 hqk
                  go_wp2_with fail
                  refine (bad_any 5 w1).mono ?_
                  rintro e wb ⟨rfl, hbb⟩
                  unfold badV
                  have HZb := Lib.hid (HZ.out.later hbb)
                  have HBb := Lib.hid (HB.out.trans (hbb.mono HB.out.size))
                  obtain ⟨z0, z1, z2, z3, z4, z5⟩ := HZb.out.cells
                  obtain ⟨f0, f1, f2, f3, f4, f5⟩ := HZb.out.cells'
                  clear hbb
                  go_wp2
                  have hs := HZb.out.set (.int .i64 0) (.string ⟨#[]⟩) (.int .i64 0) (.slice none 0 0) (.int .i64 0) (.int .i64 5)
                  have hb := set6_below HBb.out (b := w.heap.size) (by omega) (.int .i64 0) (.string ⟨#[]⟩) (.int .i64 0) (.slice none 0 0) (.int .i64 0) (.int .i64 5)
                  show bodyPost _ _ _ .ret _ (set6 wb (w.heap.size) (.int .i64 0) (.string ⟨#[]⟩) (.int .i64 0) (.slice none 0 0) (.int .i64 0) (.int .i64 5))
                  generalize set6 wb (w.heap.size) (.int .i64 0) (.string ⟨#[]⟩) (.int .i64 0) (.slice none 0 0) (.int .i64 0) (.int .i64 5) = wend at hs hb
                  exact bodyPost_ret (results_cell rfl rfl (loadRd hs)) rfl ⟨by rw [HR.out]; exact ⟨by decide, rfl⟩, hb⟩
                · have hovn : decide (Q < U) = false := by rw [decide_eq_false_iff_not]; exact hov
                  have HQ2 : Hid (Rp.numL false m (decide (q + 1 = at_)) (10 * U + (y - 48)).toNat (B.drop (q + 1)) = R) := Lib.hid (by
                    rw [← hQ, if_neg (by
                      rintro (h | h | h)
                      · omega
                      · exact absurd h.2.1 (by decide)
                      · omega), decide_eq_false (by omega), hcd, show (10 * U + (y - 48)).toNat = 10 * U.toNat + (y - 48).toNat by omega])
                  have wT : IntKind.u64.wrap (10 * U) = 10 * U := by rw [IntKind.wrap_u64]; omega
                  have wS : IntKind.u64.wrap (10 * U + (y - 48)) = 10 * U + (y - 48) := by rw [IntKind.wrap_u64]; omega
                  have hle : 10 * U + (y - 48) ≤ (m : Int) := by omega
                  clear hdr hc hy hQ HEND hcd hdg hU0 hqk
                  go_wp2_with fail
                  go_round
                  case rel => exact ⟨q + 1, 10 * U + (y - 48), by omega, by omega, by go_num, rfl, by omega, by omega, fun h => by omega, HQ2⟩
                  case measure => simp [intOf]; omega
      · obtain rfl : q = B.length := by omega
        have h1I : ¬ (B.length : Int) < (B.length : Int) := by omega
        have hQ := HQ.out
        rw [drop_end (Nat.le_refl _), Rp.numL] at hQ
        have HR : Hid (R = .err 6) := Lib.hid hQ.symm
        clear hQ HQ HEND hU0
        go_wp2_with fail
        refine (bad_any 6 w1).mono ?_
        rintro e wb ⟨rfl, hbb⟩
        unfold badV
        have HZb := Lib.hid (HZ.out.later hbb)
        have HBb := Lib.hid (HB.out.trans (hbb.mono HB.out.size))
        obtain ⟨z0, z1, z2, z3, z4, z5⟩ := HZb.out.cells
        obtain ⟨f0, f1, f2, f3, f4, f5⟩ := HZb.out.cells'
        clear hbb
        go_wp2
        have hs := HZb.out.set (.int .i64 0) (.string ⟨#[]⟩) (.int .i64 0) (.slice none 0 0) (.int .i64 0) (.int .i64 6)
        have hb := set6_below HBb.out (b := w.heap.size) (by omega) (.int .i64 0) (.string ⟨#[]⟩) (.int .i64 0) (.slice none 0 0) (.int .i64 0) (.int .i64 6)
        show bodyPost _ _ _ .ret _ (set6 wb (w.heap.size) (.int .i64 0) (.string ⟨#[]⟩) (.int .i64 0) (.slice none 0 0) (.int .i64 0) (.int .i64 6))
        generalize set6 wb (w.heap.size) (.int .i64 0) (.string ⟨#[]⟩) (.int .i64 0) (.slice none 0 0) (.int .i64 0) (.int .i64 6) = wend at hs hb
        exact bodyPost_ret (results_cell rfl rfl (loadRd hs)) rfl ⟨by rw [HR.out]; exact ⟨by decide, rfl⟩, hb⟩

theorem number_ref (B : List UInt8) (at_ : Nat) (low : Bool) (m : Nat) (w : World) (hl : B.length ≤ 3000) (hi : at_ ≤ B.length) (hm9 : 9 ≤ m) (hm : m ≤ 9223372036854775807) :
    Calls Tryz.prog 54 #[.string ⟨B.toArray⟩, .int .i64 (at_ : Int), .bool low, .int .u64 (m : Int)] w (NumbOut B.length w (Rp.refN low m (B.drop at_))) := by
  by_cases hh : (B.drop at_).head? = some 45
  · exact number_minus B at_ low m w hl hi hm9 hm hh
  · exact number_plain B at_ low m w hl hi hm9 hm hh
end Go.Proofs.YtbkhnnjjpelfcaaGreatDoor
namespace Go.Proofs.YtbkhnnjjpelfcaaGreatDoor
open Go.RowKit Go.Shelf
attribute [local go_sem] Oper.semAt_some
set_option linter.unusedVariables false
set_option linter.unusedSimpArgs false

/-- what is told of a reply without elements. -/
def RdL (n : Nat) (o : Rp.Out Rp.R) (kk : Int) (ss : ByteArray) (nn nx ex : Int) : Prop :=
  match o with
  | .ok r t => r.l = [] ∧ kk = r.k ∧ ss = ⟨r.s.toArray⟩ ∧ nn = r.n ∧ nx = (n : Int) - (t.length : Int) ∧ ex = 0
  | .err c => c ≠ 0 ∧ kk = 0 ∧ ss = ⟨#[]⟩ ∧ nn = 0 ∧ nx = 0 ∧ ex = c

theorem end_form (B : List UInt8) (i : Nat) (k : Int) (s : List UInt8) (m : Int) (hl : B.length ≤ 3000) (hi : i ≤ B.length) :
    ∃ (kk : Int) (ss : ByteArray) (nn nx ex : Int), RdL B.length (Rp.endP (Rp.R.mk k s m []) (B.drop i)) kk ss nn nx ex ∧
      ∀ w, Calls Tryz.prog 76 #[.string ⟨B.toArray⟩, .int .i64 (i : Int), .agg #[.int .i64 k, .string ⟨s.toArray⟩, .int .i64 m, .slice none 0 0]] w fun e W => e = .returned (.agg #[.int .i64 kk, .string ss, .int .i64 nn, .slice none 0 0, .int .i64 nx, .int .i64 ex]) ∧ Below w.heap.size w W := by
  have has := endP_as () (Rp.R.mk k s m []) (B.drop i)
  have hc := fun w => end_any B i k s m w hl hi
  unfold EndOut at hc
  generalize Rp.endP () (B.drop i) = o at has hc
  cases o with
  | ok u t =>
    simp only at has hc
    exact ⟨k, ⟨s.toArray⟩, m, (B.length : Int) - (t.length : Int), 0, by rw [has]; exact ⟨rfl, rfl, rfl, rfl, rfl, rfl⟩, hc⟩
  | err c =>
    simp only at has hc
    by_cases hc0 : c = 0
    · subst hc0
      have : Rp.endP (Rp.R.mk k s m []) (B.drop i) ≠ .err 0 := by
        unfold Rp.endP
        split
        · simp
        · split
          · split
            · simp
            · split <;> simp
          · simp
      exact (this has).elim
    · refine ⟨0, ⟨#[]⟩, 0, 0, c, by rw [has]; exact ⟨hc0, rfl, rfl, rfl, rfl, rfl⟩, fun w => (hc w).mono ?_⟩
      rintro e W ⟨⟨-, h⟩, hb⟩
      exact ⟨h, hb⟩

/-- what is told of a number, its parts. -/
def RdN (n : Nat) (o : Rp.Out Int) (nn nx ex : Int) : Prop :=
  match o with
  | .ok v t => nn = v ∧ nx = (n : Int) - (t.length : Int) ∧ ex = 0
  | .err c => c ≠ 0 ∧ nn = 0 ∧ nx = 0 ∧ ex = c

theorem endP_err0 {α : Type} {a : α} {l : List UInt8} : Rp.endP a l ≠ .err 0 := by
  unfold Rp.endP
  split
  · simp
  · split
    · split
      · simp
      · split <;> simp
    · simp
theorem numL_err0 {neg : Bool} {M : Nat} : ∀ (l : List UInt8) (fst : Bool) (u : Nat), Rp.numL neg M fst u l ≠ .err 0
  | [], _, _ => by rw [Rp.numL]; simp
  | c :: r, fst, u => by
    rw [Rp.numL]
    split
    · split
      · simp
      · exact numL_err0 r _ _
    · split
      · simp
      · exact endP_err0
theorem refN_err0 {low : Bool} {m : Nat} {l : List UInt8} : Rp.refN low m l ≠ .err 0 := by
  unfold Rp.refN
  split
  · split
    · exact numL_err0 _ _ _
    · simp
  · exact numL_err0 _ _ _

theorem number_form (B : List UInt8) (at_ : Nat) (low : Bool) (m : Nat) (hl : B.length ≤ 3000) (hi : at_ ≤ B.length) (hm9 : 9 ≤ m) (hm : m ≤ 9223372036854775807) :
    ∃ (nn nx ex : Int), RdN B.length (Rp.refN low m (B.drop at_)) nn nx ex ∧
      ∀ w, Calls Tryz.prog 54 #[.string ⟨B.toArray⟩, .int .i64 (at_ : Int), .bool low, .int .u64 (m : Int)] w fun e W => e = .returned (.agg #[.int .i64 0, .string ⟨#[]⟩, .int .i64 nn, .slice none 0 0, .int .i64 nx, .int .i64 ex]) ∧ Below w.heap.size w W := by
  have hc := fun w => number_ref B at_ low m w hl hi hm9 hm
  have h0 := refN_err0 (low := low) (m := m) (l := B.drop at_)
  unfold NumbOut at hc
  generalize Rp.refN low m (B.drop at_) = o at hc h0
  cases o with
  | ok v t => exact ⟨v, (B.length : Int) - (t.length : Int), 0, ⟨rfl, rfl, rfl⟩, hc⟩
  | err c =>
    refine ⟨0, 0, c, ⟨fun h => h0 (by rw [h]), rfl, rfl, rfl⟩, fun w => (hc w).mono ?_⟩
    rintro e W ⟨⟨-, h⟩, hb⟩
    exact ⟨h, hb⟩

set_option maxRecDepth 100000 in
set_option maxHeartbeats 8000000 in
theorem bulk_ref (B : List UInt8) (at_ : Nat) (hl : B.length ≤ 3000) (hi : at_ ≤ B.length) :
    ∃ (kk : Int) (ss : ByteArray) (nn nx ex : Int), RdL B.length (Rp.bulkR (B.drop at_)) kk ss nn nx ex ∧
      ∀ w, Calls Tryz.prog 55 #[.string ⟨B.toArray⟩, .int .i64 (at_ : Int)] w fun e W => e = .returned (.agg #[.int .i64 kk, .string ss, .int .i64 nn, .slice none 0 0, .int .i64 nx, .int .i64 ex]) ∧ Below w.heap.size w W := by
  have hlI : (B.length : Int) ≤ 3000 := by omega
  have a0 : (0 : Int) ≤ (at_ : Int) := by omega
  have aL : (at_ : Int) ≤ (B.length : Int) := by omega
  have wa1 : IntKind.i64.wrap ((at_ : Int) + 1) = (at_ : Int) + 1 := IntWalk.i64_in _ (by omega)
  have wa2 : IntKind.i64.wrap ((at_ : Int) + 2) = (at_ : Int) + 2 := IntWalk.i64_in _ (by omega)
  by_cases h1 : at_ < B.length
  · have h1I : (at_ : Int) < (B.length : Int) := by omega
    have hix := idx_at B at_ h1
    have hdr := drop_at h1
    obtain ⟨c0, hc⟩ : ∃ c0, B.getD at_ 0 = c0 := ⟨_, rfl⟩
    rw [hc] at hix hdr
    obtain ⟨y', hy'⟩ : ∃ y' : Int, (c0.toNat : Int) = y' := ⟨_, rfl⟩
    rw [hy'] at hix
    by_cases h45 : c0 = 45
    · have hy45 : y' = 45 := by rw [← hy', h45]; rfl
      subst hy45
      by_cases h2 : at_ + 1 < B.length
      · have h2I : (at_ : Int) + 1 < (B.length : Int) := by omega
        have h2n : ¬ (B.length : Int) ≤ (at_ : Int) + 1 := by omega
        have hix2 := idx_at B (at_ + 1) h2
        rw [show ((at_ + 1 : Nat) : Int) = (at_ : Int) + 1 from rfl] at hix2
        have hdr2 := drop_at h2
        obtain ⟨c2, hc2⟩ : ∃ c2, B.getD (at_ + 1) 0 = c2 := ⟨_, rfl⟩
        rw [hc2] at hdr2 hix2
        obtain ⟨y2, hy2⟩ : ∃ y2 : Int, (c2.toNat : Int) = y2 := ⟨_, rfl⟩
        rw [hy2] at hix2
        by_cases h49 : c2 = 49
        · have hy49 : y2 = 49 := by rw [← hy2, h49]; rfl
          subst hy49
          obtain ⟨kk, ss, nn, nx, ex, hrd, hcall⟩ := end_form B (at_ + 2) 5 [] 0 hl (by omega)
          refine ⟨kk, ss, nn, nx, ex, ?_, fun w => ?_⟩
          · unfold Rp.bulkR
            rw [hdr, hdr2, if_pos (by rw [h45]; rfl), List.drop_succ_cons, List.drop_zero]
            simp only
            rw [if_pos h49]
            exact hrd
          · have HC := Lib.hid hcall
            rw [show ((at_ + 2 : Nat) : Int) = (at_ : Int) + 2 from rfl] at HC
            clear hdr hdr2 hc hc2 hy' hy2 hrd hcall
            obtain ⟨w1, hw1⟩ : ∃ w1, w.alloc (.cells #[.int .i64 0, .string ⟨#[]⟩, .int .i64 0, .slice none 0 0, .int .i64 0, .int .i64 0] 51) = w1 := ⟨_, rfl⟩
            have hz : Rd6 w1 w.heap.size (.int .i64 0) (.string ⟨#[]⟩) (.int .i64 0) (.slice none 0 0) (.int .i64 0) (.int .i64 0) := by rw [← hw1]; exact Rd6.new w _ _ _ _ _ _
            have hb1 : Below w.heap.size w w1 := by rw [← hw1]; exact (Below.refl _ w).alloc (Nat.le_refl _) _
            have hsz : w1.heap.size = w.heap.size + 1 := by rw [← hw1]; simp
            have HW1 := Lib.hid hw1
            have HZ := Lib.hid hz
            have HB := Lib.hid hb1
            clear hw1 hz hb1
            go_enter Tryz.func55, Tryz.ntmps55
            go_upto_region 1 with (fail)
            rw [show w.alloc (.cells #[.int .i64 0, .string ⟨#[]⟩, .int .i64 0, .slice none 0 0, .int .i64 0, .int .i64 0] 51) = w1 from HW1.out]
            clear HW1
            go_wp2_with fail
            refine (HC.out w1).mono ?_
            rintro e wb ⟨rfl, hbb⟩
            have HZb := Lib.hid (HZ.out.later hbb)
            have HBb := Lib.hid (HB.out.trans (hbb.mono HB.out.size))
            obtain ⟨z0, z1, z2, z3, z4, z5⟩ := HZb.out.cells
            obtain ⟨f0, f1, f2, f3, f4, f5⟩ := HZb.out.cells'
            clear hbb
            go_wp2
            have hs := HZb.out.set (.int .i64 kk) (.string ss) (.int .i64 nn) (.slice none 0 0) (.int .i64 nx) (.int .i64 ex)
            have hb := set6_below HBb.out (b := w.heap.size) (by omega) (.int .i64 kk) (.string ss) (.int .i64 nn) (.slice none 0 0) (.int .i64 nx) (.int .i64 ex)
            show bodyPost _ _ _ .ret _ (set6 wb (w.heap.size) (.int .i64 kk) (.string ss) (.int .i64 nn) (.slice none 0 0) (.int .i64 nx) (.int .i64 ex))
            generalize set6 wb (w.heap.size) (.int .i64 kk) (.string ss) (.int .i64 nn) (.slice none 0 0) (.int .i64 nx) (.int .i64 ex) = wend at hs hb
            exact bodyPost_ret (results_cell rfl rfl (loadRd hs)) rfl ⟨rfl, hb⟩
        · have hy49 : (y2 == 49) = false := by rw [beq_eq_false_iff_ne]; intro h; exact h49 (UInt8.toNat_inj.1 (by have : (49 : UInt8).toNat = 49 := rfl; omega))
          have hyn : ¬ y2 = 49 := beq_eq_false_iff_ne.1 hy49
          refine ⟨0, ⟨#[]⟩, 0, 0, 5, ?_, fun w => ?_⟩
          · unfold Rp.bulkR
            rw [hdr, hdr2, if_pos (by rw [h45]; rfl), List.drop_succ_cons, List.drop_zero]
            simp only
            rw [if_neg h49]
            exact ⟨by decide, rfl, rfl, rfl, rfl, rfl⟩
          · clear hdr hdr2 hc hc2 hy' hy2
            obtain ⟨w1, hw1⟩ : ∃ w1, w.alloc (.cells #[.int .i64 0, .string ⟨#[]⟩, .int .i64 0, .slice none 0 0, .int .i64 0, .int .i64 0] 51) = w1 := ⟨_, rfl⟩
            have hz : Rd6 w1 w.heap.size (.int .i64 0) (.string ⟨#[]⟩) (.int .i64 0) (.slice none 0 0) (.int .i64 0) (.int .i64 0) := by rw [← hw1]; exact Rd6.new w _ _ _ _ _ _
            have hb1 : Below w.heap.size w w1 := by rw [← hw1]; exact (Below.refl _ w).alloc (Nat.le_refl _) _
            have hsz : w1.heap.size = w.heap.size + 1 := by rw [← hw1]; simp
            have HW1 := Lib.hid hw1
            have HZ := Lib.hid hz
            have HB := Lib.hid hb1
            clear hw1 hz hb1
            go_enter Tryz.func55, Tryz.ntmps55
            go_upto_region 1 with (fail)
            rw [show w.alloc (.cells #[.int .i64 0, .string ⟨#[]⟩, .int .i64 0, .slice none 0 0, .int .i64 0, .int .i64 0] 51) = w1 from HW1.out]
            clear HW1
            go_wp2_with fail
            refine (bad_any 5 w1).mono ?_
            rintro e wb ⟨rfl, hbb⟩
            unfold badV
            have HZb := Lib.hid (HZ.out.later hbb)
            have HBb := Lib.hid (HB.out.trans (hbb.mono HB.out.size))
            obtain ⟨z0, z1, z2, z3, z4, z5⟩ := HZb.out.cells
            obtain ⟨f0, f1, f2, f3, f4, f5⟩ := HZb.out.cells'
            clear hbb
            go_wp2
            have hs := HZb.out.set (.int .i64 0) (.string ⟨#[]⟩) (.int .i64 0) (.slice none 0 0) (.int .i64 0) (.int .i64 5)
            have hb := set6_below HBb.out (b := w.heap.size) (by omega) (.int .i64 0) (.string ⟨#[]⟩) (.int .i64 0) (.slice none 0 0) (.int .i64 0) (.int .i64 5)
            show bodyPost _ _ _ .ret _ (set6 wb (w.heap.size) (.int .i64 0) (.string ⟨#[]⟩) (.int .i64 0) (.slice none 0 0) (.int .i64 0) (.int .i64 5))
            generalize set6 wb (w.heap.size) (.int .i64 0) (.string ⟨#[]⟩) (.int .i64 0) (.slice none 0 0) (.int .i64 0) (.int .i64 5) = wend at hs hb
            exact bodyPost_ret (results_cell rfl rfl (loadRd hs)) rfl ⟨rfl, hb⟩
      · have h2I : (B.length : Int) ≤ (at_ : Int) + 1 := by omega
        refine ⟨0, ⟨#[]⟩, 0, 0, 6, ?_, fun w => ?_⟩
        · unfold Rp.bulkR
          rw [hdr, if_pos (by rw [h45]; rfl), List.drop_succ_cons, List.drop_zero, drop_end (by omega)]
          exact ⟨by decide, rfl, rfl, rfl, rfl, rfl⟩
        · clear hdr hc hy'
          obtain ⟨w1, hw1⟩ : ∃ w1, w.alloc (.cells #[.int .i64 0, .string ⟨#[]⟩, .int .i64 0, .slice none 0 0, .int .i64 0, .int .i64 0] 51) = w1 := ⟨_, rfl⟩
          have hz : Rd6 w1 w.heap.size (.int .i64 0) (.string ⟨#[]⟩) (.int .i64 0) (.slice none 0 0) (.int .i64 0) (.int .i64 0) := by rw [← hw1]; exact Rd6.new w _ _ _ _ _ _
          have hb1 : Below w.heap.size w w1 := by rw [← hw1]; exact (Below.refl _ w).alloc (Nat.le_refl _) _
          have hsz : w1.heap.size = w.heap.size + 1 := by rw [← hw1]; simp
          have HW1 := Lib.hid hw1
          have HZ := Lib.hid hz
          have HB := Lib.hid hb1
          clear hw1 hz hb1
          go_enter Tryz.func55, Tryz.ntmps55
          go_upto_region 1 with (fail)
          rw [show w.alloc (.cells #[.int .i64 0, .string ⟨#[]⟩, .int .i64 0, .slice none 0 0, .int .i64 0, .int .i64 0] 51) = w1 from HW1.out]
          clear HW1
          go_wp2_with fail
          refine (bad_any 6 w1).mono ?_
          rintro e wb ⟨rfl, hbb⟩
          unfold badV
          have HZb := Lib.hid (HZ.out.later hbb)
          have HBb := Lib.hid (HB.out.trans (hbb.mono HB.out.size))
          obtain ⟨z0, z1, z2, z3, z4, z5⟩ := HZb.out.cells
          obtain ⟨f0, f1, f2, f3, f4, f5⟩ := HZb.out.cells'
          clear hbb
          go_wp2
          have hs := HZb.out.set (.int .i64 0) (.string ⟨#[]⟩) (.int .i64 0) (.slice none 0 0) (.int .i64 0) (.int .i64 6)
          have hb := set6_below HBb.out (b := w.heap.size) (by omega) (.int .i64 0) (.string ⟨#[]⟩) (.int .i64 0) (.slice none 0 0) (.int .i64 0) (.int .i64 6)
          show bodyPost _ _ _ .ret _ (set6 wb (w.heap.size) (.int .i64 0) (.string ⟨#[]⟩) (.int .i64 0) (.slice none 0 0) (.int .i64 0) (.int .i64 6))
          generalize set6 wb (w.heap.size) (.int .i64 0) (.string ⟨#[]⟩) (.int .i64 0) (.slice none 0 0) (.int .i64 0) (.int .i64 6) = wend at hs hb
          exact bodyPost_ret (results_cell rfl rfl (loadRd hs)) rfl ⟨rfl, hb⟩
    · have hy45 : (y' == 45) = false := by rw [beq_eq_false_iff_ne]; intro h; exact h45 (UInt8.toNat_inj.1 (by have : (45 : UInt8).toNat = 45 := rfl; omega))
      have hyn : ¬ y' = 45 := beq_eq_false_iff_ne.1 hy45
      have hh : ¬ (B.drop at_).head? = some 45 := by rw [hdr]; simpa using h45
      have HN0 := number_form B at_ false 1048576 hl hi (by decide) (by decide)
      clear hdr hc hy' h45
      have hN := HN0
      obtain ⟨nn0, nx0, ex0, hrd, hcall⟩ := hN
      have HCALL := Lib.hid hcall
      clear hcall HN0
      cases hR : Rp.refN false 1048576 (B.drop at_) with
      | err c =>
        rw [hR] at hrd
        obtain ⟨hc0, rfl, rfl, rfl⟩ := hrd
        refine ⟨0, ⟨#[]⟩, 0, 0, ex0, ?_, fun w => ?_⟩
        · unfold Rp.bulkR
          rw [if_neg hh, hR]
          exact ⟨hc0, rfl, rfl, rfl, rfl, rfl⟩
        · have hcb : (ex0 != 0) = true := by simp [hc0]
          clear hR hh
          obtain ⟨w1, hw1⟩ : ∃ w1, w.alloc (.cells #[.int .i64 0, .string ⟨#[]⟩, .int .i64 0, .slice none 0 0, .int .i64 0, .int .i64 0] 51) = w1 := ⟨_, rfl⟩
          have hz : Rd6 w1 w.heap.size (.int .i64 0) (.string ⟨#[]⟩) (.int .i64 0) (.slice none 0 0) (.int .i64 0) (.int .i64 0) := by rw [← hw1]; exact Rd6.new w _ _ _ _ _ _
          have hb1 : Below w.heap.size w w1 := by rw [← hw1]; exact (Below.refl _ w).alloc (Nat.le_refl _) _
          have hsz : w1.heap.size = w.heap.size + 1 := by rw [← hw1]; simp
          have HW1 := Lib.hid hw1
          have HZ := Lib.hid hz
          have HB := Lib.hid hb1
          clear hw1 hz hb1
          go_enter Tryz.func55, Tryz.ntmps55
          go_upto_region 1 with (fail)
          rw [show w.alloc (.cells #[.int .i64 0, .string ⟨#[]⟩, .int .i64 0, .slice none 0 0, .int .i64 0, .int .i64 0] 51) = w1 from HW1.out]
          clear HW1
          go_wp2_with fail
          refine (HCALL.out w1).mono ?_
          rintro e w2 ⟨rfl, hb2⟩
          go_upto_region 8 with (fail)
          obtain ⟨w3, hw3⟩ : ∃ w3, w2.alloc (.cells #[.int .i64 0, .string ⟨#[]⟩, .int .i64 0, .slice none 0 0, .int .i64 0, .int .i64 ex0] 51) = w3 := ⟨_, rfl⟩
          rw [hw3]
          have hy := Rd6.new w2 (.int .i64 0) (.string ⟨#[]⟩) (.int .i64 0) (.slice none 0 0) (.int .i64 0) (.int .i64 ex0)
          have hb3 : Below w2.heap.size w2 w3 := by rw [← hw3]; exact (Below.refl _ w2).alloc (Nat.le_refl _) _
          have hs3 : w3.heap.size = w2.heap.size + 1 := by rw [← hw3]; simp
          rw [hw3] at hy
          obtain ⟨y0, y1, y2, y3, y4, y5⟩ := hy.cells
          have HZ3 := Lib.hid ((HZ.out.later hb2).later hb3)
          have HB3 := Lib.hid ((HB.out.trans (hb2.mono HB.out.size)).trans (hb3.mono (HB.out.trans (hb2.mono HB.out.size)).size))
          have hz2 : w1.heap.size ≤ w2.heap.size := hb2.size
          clear hw3 hb2 hb3 hy
          go_upto_region 9 with (fail)
          obtain ⟨z0, z1, z2, z3, z4, z5⟩ := HZ3.out.cells
          obtain ⟨f0, f1, f2, f3, f4, f5⟩ := HZ3.out.cells'
          go_wp2
          have hs := HZ3.out.set (.int .i64 0) (.string ⟨#[]⟩) (.int .i64 0) (.slice none 0 0) (.int .i64 0) (.int .i64 ex0)
          have hb := set6_below HB3.out (b := w.heap.size) (by omega) (.int .i64 0) (.string ⟨#[]⟩) (.int .i64 0) (.slice none 0 0) (.int .i64 0) (.int .i64 ex0)
          show bodyPost _ _ _ .ret _ (set6 w3 (w.heap.size) (.int .i64 0) (.string ⟨#[]⟩) (.int .i64 0) (.slice none 0 0) (.int .i64 0) (.int .i64 ex0))
          generalize set6 w3 (w.heap.size) (.int .i64 0) (.string ⟨#[]⟩) (.int .i64 0) (.slice none 0 0) (.int .i64 0) (.int .i64 ex0) = wend at hs hb
          exact bodyPost_ret (results_cell rfl rfl (loadRd hs)) rfl ⟨rfl, hb⟩
      | ok v t =>
        rw [hR] at hrd
        obtain ⟨hnv, hnx, rfl⟩ := hrd
        subst hnv
        have hdv : Rp.devP 0 ((1048576 : Nat) : Int) (B.drop at_) = .ok nn0 t := by rw [← Rp.refN_up (by decide)]; exact hR
        have hdev := Rp.devP_inv hdv
        have hv0 : 0 ≤ nn0 := hdev.2.1
        have hv1 : nn0 ≤ 1048576 := hdev.2.2
        have htl : t.length ≤ B.length := by
          have := congrArg List.length hdev.1
          rw [List.length_drop, List.length_append, List.length_append] at this
          omega
        obtain ⟨j, hj⟩ : ∃ j : Nat, nx0 = (j : Int) := ⟨nx0.toNat, by omega⟩
        subst hj
        have hjB : j ≤ B.length := by omega
        have hdrj : B.drop j = t := by
          have e1 : B.drop at_ = (Dig.dec nn0 ++ Rp.crlf) ++ t := hdev.1
          have e2 := congrArg List.length e1
          rw [List.length_drop, List.length_append] at e2
          have e3 : (B.drop at_).drop (j - at_) = t := by rw [e1, show j - at_ = (Dig.dec nn0 ++ Rp.crlf).length by omega, List.drop_left]
          rw [List.drop_drop, show at_ + (j - at_) = j by omega] at e3
          exact e3
        clear hdv
        obtain ⟨v, rfl⟩ : ∃ v : Nat, nn0 = (v : Int) := ⟨nn0.toNat, by omega⟩
        have wjv : IntKind.i64.wrap ((B.length : Int) - (j : Int)) = (B.length : Int) - (j : Int) := IntWalk.i64_in _ (by omega)
        have wjs : IntKind.i64.wrap ((j : Int) + (v : Int)) = (j : Int) + (v : Int) := IntWalk.i64_in _ (by omega)
        by_cases hlt : (t.length : Int) < (v : Int)
        · refine ⟨0, ⟨#[]⟩, 0, 0, 6, ?_, fun w => ?_⟩
          · unfold Rp.bulkR
            rw [if_neg hh, hR]
            show RdL _ (if (t.length : Int) < (v : Int) then _ else _) _ _ _ _ _
            rw [if_pos hlt]
            exact ⟨by decide, rfl, rfl, rfl, rfl, rfl⟩
          · have hgt : (B.length : Int) - (j : Int) < (v : Int) := by omega
            clear hR hh hdev hdrj hnx
            obtain ⟨w1, hw1⟩ : ∃ w1, w.alloc (.cells #[.int .i64 0, .string ⟨#[]⟩, .int .i64 0, .slice none 0 0, .int .i64 0, .int .i64 0] 51) = w1 := ⟨_, rfl⟩
            have hz : Rd6 w1 w.heap.size (.int .i64 0) (.string ⟨#[]⟩) (.int .i64 0) (.slice none 0 0) (.int .i64 0) (.int .i64 0) := by rw [← hw1]; exact Rd6.new w _ _ _ _ _ _
            have hb1 : Below w.heap.size w w1 := by rw [← hw1]; exact (Below.refl _ w).alloc (Nat.le_refl _) _
            have hsz : w1.heap.size = w.heap.size + 1 := by rw [← hw1]; simp
            have HW1 := Lib.hid hw1
            have HZ := Lib.hid hz
            have HB := Lib.hid hb1
            clear hw1 hz hb1
            go_enter Tryz.func55, Tryz.ntmps55
            go_upto_region 1 with (fail)
            rw [show w.alloc (.cells #[.int .i64 0, .string ⟨#[]⟩, .int .i64 0, .slice none 0 0, .int .i64 0, .int .i64 0] 51) = w1 from HW1.out]
            clear HW1
            go_wp2_with fail
            refine (HCALL.out w1).mono ?_
            rintro e w2 ⟨rfl, hb2⟩
            go_upto_region 8 with (fail)
            obtain ⟨w3, hw3⟩ : ∃ w3, w2.alloc (.cells #[.int .i64 0, .string ⟨#[]⟩, .int .i64 (v : Int), .slice none 0 0, .int .i64 (j : Int), .int .i64 0] 51) = w3 := ⟨_, rfl⟩
            rw [hw3]
            have hy := Rd6.new w2 (.int .i64 0) (.string ⟨#[]⟩) (.int .i64 (v : Int)) (.slice none 0 0) (.int .i64 (j : Int)) (.int .i64 0)
            have hb3 : Below w2.heap.size w2 w3 := by rw [← hw3]; exact (Below.refl _ w2).alloc (Nat.le_refl _) _
            have hs3 : w3.heap.size = w2.heap.size + 1 := by rw [← hw3]; simp
            rw [hw3] at hy
            obtain ⟨y0, y1, y2, y3, y4, y5⟩ := hy.cells
            have HZ3 := Lib.hid ((HZ.out.later hb2).later hb3)
            have HB3 := Lib.hid ((HB.out.trans (hb2.mono HB.out.size)).trans (hb3.mono (HB.out.trans (hb2.mono HB.out.size)).size))
            have hz2 : w1.heap.size ≤ w2.heap.size := hb2.size
            clear hw3 hb2 hb3 hy
            go_upto_region 10 with (fail)
            go_wp2_with fail
            refine (bad_any 6 w3).mono ?_
            rintro e wb ⟨rfl, hbb⟩
            unfold badV
            have HZb := Lib.hid (HZ3.out.later hbb)
            have HBb := Lib.hid (HB3.out.trans (hbb.mono HB3.out.size))
            obtain ⟨z0, z1, z2, z3, z4, z5⟩ := HZb.out.cells
            obtain ⟨f0, f1, f2, f3, f4, f5⟩ := HZb.out.cells'
            clear hbb
            go_wp2
            have hs := HZb.out.set (.int .i64 0) (.string ⟨#[]⟩) (.int .i64 0) (.slice none 0 0) (.int .i64 0) (.int .i64 6)
            have hb := set6_below HBb.out (b := w.heap.size) (by omega) (.int .i64 0) (.string ⟨#[]⟩) (.int .i64 0) (.slice none 0 0) (.int .i64 0) (.int .i64 6)
            show bodyPost _ _ _ .ret _ (set6 wb (w.heap.size) (.int .i64 0) (.string ⟨#[]⟩) (.int .i64 0) (.slice none 0 0) (.int .i64 0) (.int .i64 6))
            generalize set6 wb (w.heap.size) (.int .i64 0) (.string ⟨#[]⟩) (.int .i64 0) (.slice none 0 0) (.int .i64 0) (.int .i64 6) = wend at hs hb
            exact bodyPost_ret (results_cell rfl rfl (loadRd hs)) rfl ⟨rfl, hb⟩
        · have hle : j + v ≤ B.length := by omega
          obtain ⟨kk, ss, nn, nx, ex, hrd2, hcall2⟩ := end_form B (j + v) 4 ((B.drop j).take v) 0 hl hle
          refine ⟨kk, ss, nn, nx, ex, ?_, fun w => ?_⟩
          · unfold Rp.bulkR
            rw [if_neg hh, hR]
            show RdL _ (if (t.length : Int) < (v : Int) then _ else _) _ _ _ _ _
            rw [if_neg hlt, Int.toNat_natCast, ← hdrj, List.drop_drop]
            exact hrd2
          · have hng : ¬ (B.length : Int) - (j : Int) < (v : Int) := by omega
            have HC2 := Lib.hid hcall2
            rw [show (((j + v : Nat) : Nat) : Int) = (j : Int) + (v : Int) from by omega] at HC2
            have hcut : ∀ W : World, (Instr.slice 9 (.string ⟨B.toArray⟩) (some (.int .i64 (j : Int))) (some (.int .i64 ((j : Int) + (v : Int)))) none).run Tryz.prog W = .ok (.string ⟨((B.drop j).take v).toArray⟩) W := fun W => by
              have := cut_at B j (j + v) (by omega) hle W
              rwa [show j + v - j = v by omega, show (((j + v : Nat) : Nat) : Int) = (j : Int) + (v : Int) from by omega] at this
            have HCUT := Lib.hid hcut
            clear hR hh hdev hdrj hnx hcall2 hrd2 hlt hcut
            obtain ⟨w1, hw1⟩ : ∃ w1, w.alloc (.cells #[.int .i64 0, .string ⟨#[]⟩, .int .i64 0, .slice none 0 0, .int .i64 0, .int .i64 0] 51) = w1 := ⟨_, rfl⟩
            have hz : Rd6 w1 w.heap.size (.int .i64 0) (.string ⟨#[]⟩) (.int .i64 0) (.slice none 0 0) (.int .i64 0) (.int .i64 0) := by rw [← hw1]; exact Rd6.new w _ _ _ _ _ _
            have hb1 : Below w.heap.size w w1 := by rw [← hw1]; exact (Below.refl _ w).alloc (Nat.le_refl _) _
            have hsz : w1.heap.size = w.heap.size + 1 := by rw [← hw1]; simp
            have HW1 := Lib.hid hw1
            have HZ := Lib.hid hz
            have HB := Lib.hid hb1
            clear hw1 hz hb1
            go_enter Tryz.func55, Tryz.ntmps55
            go_upto_region 1 with (fail)
            rw [show w.alloc (.cells #[.int .i64 0, .string ⟨#[]⟩, .int .i64 0, .slice none 0 0, .int .i64 0, .int .i64 0] 51) = w1 from HW1.out]
            clear HW1
            go_wp2_with fail
            refine (HCALL.out w1).mono ?_
            rintro e w2 ⟨rfl, hb2⟩
            go_upto_region 8 with (fail)
            obtain ⟨w3, hw3⟩ : ∃ w3, w2.alloc (.cells #[.int .i64 0, .string ⟨#[]⟩, .int .i64 (v : Int), .slice none 0 0, .int .i64 (j : Int), .int .i64 0] 51) = w3 := ⟨_, rfl⟩
            rw [hw3]
            have hy := Rd6.new w2 (.int .i64 0) (.string ⟨#[]⟩) (.int .i64 (v : Int)) (.slice none 0 0) (.int .i64 (j : Int)) (.int .i64 0)
            have hb3 : Below w2.heap.size w2 w3 := by rw [← hw3]; exact (Below.refl _ w2).alloc (Nat.le_refl _) _
            have hs3 : w3.heap.size = w2.heap.size + 1 := by rw [← hw3]; simp
            rw [hw3] at hy
            obtain ⟨y0, y1, y2, y3, y4, y5⟩ := hy.cells
            have HZ3 := Lib.hid ((HZ.out.later hb2).later hb3)
            have HB3 := Lib.hid ((HB.out.trans (hb2.mono HB.out.size)).trans (hb3.mono (HB.out.trans (hb2.mono HB.out.size)).size))
            have hz2 : w1.heap.size ≤ w2.heap.size := hb2.size
            clear hw3 hb2 hb3 hy
            go_upto_region 12 with (fail)
            have hcut := HCUT.out
            generalize (B.drop j).take v = SS at hcut HC2
            have hlt3 : w2.heap.size < w3.heap.size := by omega
            have hne23 : w2.heap.size ≠ w.heap.size := by omega
            go_region_held3 (fun W' => W'.cell? ⟨w2.heap.size, 2, none⟩ = some (.int .i64 (v : Int)) ∧ W'.cell? ⟨w2.heap.size, 4, none⟩ = some (.int .i64 (j : Int)))
              (first | (with_reducible exact ⟨k2, k4⟩) | go_keep | exact ⟨k2s _ _ _ _ _ _, k4s _ _ _ _ _ _⟩)
              ((go_at_call 76; refine (HC2.out _).mono ?_; rintro e w5 ⟨rfl, hb5⟩; have hbw5 : Below w3.heap.size w3 w5 := ((Below.refl w3.heap.size w3).drew).trans hb5; have k2 := (hbw5.cell (p := ⟨w2.heap.size, 2, none⟩) hlt3).trans y2; have k4 := (hbw5.cell (p := ⟨w2.heap.size, 4, none⟩) hlt3).trans y4; have k2s := fun x0 x1 x2 x3 x4 x5 => (set6_cell w5 (b := w.heap.size) (j := 2) hne23 x0 x1 x2 x3 x4 x5).trans k2; have k4s := fun x0 x1 x2 x3 x4 x5 => (set6_cell w5 (b := w.heap.size) (j := 4) hne23 x0 x1 x2 x3 x4 x5).trans k4; unfold set6 at k2s k4s; obtain ⟨z0, z1, z2, z3, z4, z5⟩ := (HZ3.out.later hbw5).cells; obtain ⟨f0, f1, f2, f3, f4, f5⟩ := (HZ3.out.later hbw5).cells'))
            have HZ5 := Lib.hid (HZ3.out.later hbw5)
            have HB5 := Lib.hid (HB3.out.trans (hbw5.mono HB3.out.size))
            clear hb5 hbw5 k2 k4 k2s k4s
            go_wp2
            have hs := HZ5.out.set (.int .i64 kk) (.string ss) (.int .i64 nn) (.slice none 0 0) (.int .i64 nx) (.int .i64 ex)
            have hb := set6_below HB5.out (b := w.heap.size) (by omega) (.int .i64 kk) (.string ss) (.int .i64 nn) (.slice none 0 0) (.int .i64 nx) (.int .i64 ex)
            show bodyPost _ _ _ .ret _ (set6 w5 (w.heap.size) (.int .i64 kk) (.string ss) (.int .i64 nn) (.slice none 0 0) (.int .i64 nx) (.int .i64 ex))
            generalize set6 w5 (w.heap.size) (.int .i64 kk) (.string ss) (.int .i64 nn) (.slice none 0 0) (.int .i64 nx) (.int .i64 ex) = wend at hs hb
            exact bodyPost_ret (results_cell rfl rfl (loadRd hs)) rfl ⟨rfl, hb⟩
  · have h1I : ¬ (at_ : Int) < (B.length : Int) := by omega
    have hh : ¬ (B.drop at_).head? = some 45 := by rw [drop_end (by omega)]; simp
    have HN0 := number_form B at_ false 1048576 hl hi (by decide) (by decide)
    have hN := HN0
    obtain ⟨nn0, nx0, ex0, hrd, hcall⟩ := hN
    have HCALL := Lib.hid hcall
    clear hcall HN0
    cases hR : Rp.refN false 1048576 (B.drop at_) with
    | err c =>
      rw [hR] at hrd
      obtain ⟨hc0, rfl, rfl, rfl⟩ := hrd
      refine ⟨0, ⟨#[]⟩, 0, 0, ex0, ?_, fun w => ?_⟩
      · unfold Rp.bulkR
        rw [if_neg hh, hR]
        exact ⟨hc0, rfl, rfl, rfl, rfl, rfl⟩
      · have hcb : (ex0 != 0) = true := by simp [hc0]
        clear hR hh
        obtain ⟨w1, hw1⟩ : ∃ w1, w.alloc (.cells #[.int .i64 0, .string ⟨#[]⟩, .int .i64 0, .slice none 0 0, .int .i64 0, .int .i64 0] 51) = w1 := ⟨_, rfl⟩
        have hz : Rd6 w1 w.heap.size (.int .i64 0) (.string ⟨#[]⟩) (.int .i64 0) (.slice none 0 0) (.int .i64 0) (.int .i64 0) := by rw [← hw1]; exact Rd6.new w _ _ _ _ _ _
        have hb1 : Below w.heap.size w w1 := by rw [← hw1]; exact (Below.refl _ w).alloc (Nat.le_refl _) _
        have hsz : w1.heap.size = w.heap.size + 1 := by rw [← hw1]; simp
        have HW1 := Lib.hid hw1
        have HZ := Lib.hid hz
        have HB := Lib.hid hb1
        clear hw1 hz hb1
        go_enter Tryz.func55, Tryz.ntmps55
        go_upto_region 1 with (fail)
        rw [show w.alloc (.cells #[.int .i64 0, .string ⟨#[]⟩, .int .i64 0, .slice none 0 0, .int .i64 0, .int .i64 0] 51) = w1 from HW1.out]
        clear HW1
        go_wp2_with fail
        refine (HCALL.out w1).mono ?_
        rintro e w2 ⟨rfl, hb2⟩
        go_upto_region 8 with (fail)
        obtain ⟨w3, hw3⟩ : ∃ w3, w2.alloc (.cells #[.int .i64 0, .string ⟨#[]⟩, .int .i64 0, .slice none 0 0, .int .i64 0, .int .i64 ex0] 51) = w3 := ⟨_, rfl⟩
        rw [hw3]
        have hy := Rd6.new w2 (.int .i64 0) (.string ⟨#[]⟩) (.int .i64 0) (.slice none 0 0) (.int .i64 0) (.int .i64 ex0)
        have hb3 : Below w2.heap.size w2 w3 := by rw [← hw3]; exact (Below.refl _ w2).alloc (Nat.le_refl _) _
        have hs3 : w3.heap.size = w2.heap.size + 1 := by rw [← hw3]; simp
        rw [hw3] at hy
        obtain ⟨y0, y1, y2, y3, y4, y5⟩ := hy.cells
        have HZ3 := Lib.hid ((HZ.out.later hb2).later hb3)
        have HB3 := Lib.hid ((HB.out.trans (hb2.mono HB.out.size)).trans (hb3.mono (HB.out.trans (hb2.mono HB.out.size)).size))
        have hz2 : w1.heap.size ≤ w2.heap.size := hb2.size
        clear hw3 hb2 hb3 hy
        go_upto_region 9 with (fail)
        obtain ⟨z0, z1, z2, z3, z4, z5⟩ := HZ3.out.cells
        obtain ⟨f0, f1, f2, f3, f4, f5⟩ := HZ3.out.cells'
        go_wp2
        have hs := HZ3.out.set (.int .i64 0) (.string ⟨#[]⟩) (.int .i64 0) (.slice none 0 0) (.int .i64 0) (.int .i64 ex0)
        have hb := set6_below HB3.out (b := w.heap.size) (by omega) (.int .i64 0) (.string ⟨#[]⟩) (.int .i64 0) (.slice none 0 0) (.int .i64 0) (.int .i64 ex0)
        show bodyPost _ _ _ .ret _ (set6 w3 (w.heap.size) (.int .i64 0) (.string ⟨#[]⟩) (.int .i64 0) (.slice none 0 0) (.int .i64 0) (.int .i64 ex0))
        generalize set6 w3 (w.heap.size) (.int .i64 0) (.string ⟨#[]⟩) (.int .i64 0) (.slice none 0 0) (.int .i64 0) (.int .i64 ex0) = wend at hs hb
        exact bodyPost_ret (results_cell rfl rfl (loadRd hs)) rfl ⟨rfl, hb⟩
    | ok v t =>
      rw [hR] at hrd
      obtain ⟨hnv, hnx, rfl⟩ := hrd
      subst hnv
      have hdv : Rp.devP 0 ((1048576 : Nat) : Int) (B.drop at_) = .ok nn0 t := by rw [← Rp.refN_up (by decide)]; exact hR
      have hdev := Rp.devP_inv hdv
      have hv0 : 0 ≤ nn0 := hdev.2.1
      have hv1 : nn0 ≤ 1048576 := hdev.2.2
      have htl : t.length ≤ B.length := by
        have := congrArg List.length hdev.1
        rw [List.length_drop, List.length_append, List.length_append] at this
        omega
      obtain ⟨j, hj⟩ : ∃ j : Nat, nx0 = (j : Int) := ⟨nx0.toNat, by omega⟩
      subst hj
      have hjB : j ≤ B.length := by omega
      have hdrj : B.drop j = t := by
        have e1 : B.drop at_ = (Dig.dec nn0 ++ Rp.crlf) ++ t := hdev.1
        have e2 := congrArg List.length e1
        rw [List.length_drop, List.length_append] at e2
        have e3 : (B.drop at_).drop (j - at_) = t := by rw [e1, show j - at_ = (Dig.dec nn0 ++ Rp.crlf).length by omega, List.drop_left]
        rw [List.drop_drop, show at_ + (j - at_) = j by omega] at e3
        exact e3
      clear hdv
      obtain ⟨v, rfl⟩ : ∃ v : Nat, nn0 = (v : Int) := ⟨nn0.toNat, by omega⟩
      have wjv : IntKind.i64.wrap ((B.length : Int) - (j : Int)) = (B.length : Int) - (j : Int) := IntWalk.i64_in _ (by omega)
      have wjs : IntKind.i64.wrap ((j : Int) + (v : Int)) = (j : Int) + (v : Int) := IntWalk.i64_in _ (by omega)
      by_cases hlt : (t.length : Int) < (v : Int)
      · refine ⟨0, ⟨#[]⟩, 0, 0, 6, ?_, fun w => ?_⟩
        · unfold Rp.bulkR
          rw [if_neg hh, hR]
          show RdL _ (if (t.length : Int) < (v : Int) then _ else _) _ _ _ _ _
          rw [if_pos hlt]
          exact ⟨by decide, rfl, rfl, rfl, rfl, rfl⟩
        · have hgt : (B.length : Int) - (j : Int) < (v : Int) := by omega
          clear hR hh hdev hdrj hnx
          obtain ⟨w1, hw1⟩ : ∃ w1, w.alloc (.cells #[.int .i64 0, .string ⟨#[]⟩, .int .i64 0, .slice none 0 0, .int .i64 0, .int .i64 0] 51) = w1 := ⟨_, rfl⟩
          have hz : Rd6 w1 w.heap.size (.int .i64 0) (.string ⟨#[]⟩) (.int .i64 0) (.slice none 0 0) (.int .i64 0) (.int .i64 0) := by rw [← hw1]; exact Rd6.new w _ _ _ _ _ _
          have hb1 : Below w.heap.size w w1 := by rw [← hw1]; exact (Below.refl _ w).alloc (Nat.le_refl _) _
          have hsz : w1.heap.size = w.heap.size + 1 := by rw [← hw1]; simp
          have HW1 := Lib.hid hw1
          have HZ := Lib.hid hz
          have HB := Lib.hid hb1
          clear hw1 hz hb1
          go_enter Tryz.func55, Tryz.ntmps55
          go_upto_region 1 with (fail)
          rw [show w.alloc (.cells #[.int .i64 0, .string ⟨#[]⟩, .int .i64 0, .slice none 0 0, .int .i64 0, .int .i64 0] 51) = w1 from HW1.out]
          clear HW1
          go_wp2_with fail
          refine (HCALL.out w1).mono ?_
          rintro e w2 ⟨rfl, hb2⟩
          go_upto_region 8 with (fail)
          obtain ⟨w3, hw3⟩ : ∃ w3, w2.alloc (.cells #[.int .i64 0, .string ⟨#[]⟩, .int .i64 (v : Int), .slice none 0 0, .int .i64 (j : Int), .int .i64 0] 51) = w3 := ⟨_, rfl⟩
          rw [hw3]
          have hy := Rd6.new w2 (.int .i64 0) (.string ⟨#[]⟩) (.int .i64 (v : Int)) (.slice none 0 0) (.int .i64 (j : Int)) (.int .i64 0)
          have hb3 : Below w2.heap.size w2 w3 := by rw [← hw3]; exact (Below.refl _ w2).alloc (Nat.le_refl _) _
          have hs3 : w3.heap.size = w2.heap.size + 1 := by rw [← hw3]; simp
          rw [hw3] at hy
          obtain ⟨y0, y1, y2, y3, y4, y5⟩ := hy.cells
          have HZ3 := Lib.hid ((HZ.out.later hb2).later hb3)
          have HB3 := Lib.hid ((HB.out.trans (hb2.mono HB.out.size)).trans (hb3.mono (HB.out.trans (hb2.mono HB.out.size)).size))
          have hz2 : w1.heap.size ≤ w2.heap.size := hb2.size
          clear hw3 hb2 hb3 hy
          go_upto_region 10 with (fail)
          go_wp2_with fail
          refine (bad_any 6 w3).mono ?_
          rintro e wb ⟨rfl, hbb⟩
          unfold badV
          have HZb := Lib.hid (HZ3.out.later hbb)
          have HBb := Lib.hid (HB3.out.trans (hbb.mono HB3.out.size))
          obtain ⟨z0, z1, z2, z3, z4, z5⟩ := HZb.out.cells
          obtain ⟨f0, f1, f2, f3, f4, f5⟩ := HZb.out.cells'
          clear hbb
          go_wp2
          have hs := HZb.out.set (.int .i64 0) (.string ⟨#[]⟩) (.int .i64 0) (.slice none 0 0) (.int .i64 0) (.int .i64 6)
          have hb := set6_below HBb.out (b := w.heap.size) (by omega) (.int .i64 0) (.string ⟨#[]⟩) (.int .i64 0) (.slice none 0 0) (.int .i64 0) (.int .i64 6)
          show bodyPost _ _ _ .ret _ (set6 wb (w.heap.size) (.int .i64 0) (.string ⟨#[]⟩) (.int .i64 0) (.slice none 0 0) (.int .i64 0) (.int .i64 6))
          generalize set6 wb (w.heap.size) (.int .i64 0) (.string ⟨#[]⟩) (.int .i64 0) (.slice none 0 0) (.int .i64 0) (.int .i64 6) = wend at hs hb
          exact bodyPost_ret (results_cell rfl rfl (loadRd hs)) rfl ⟨rfl, hb⟩
      · have hle : j + v ≤ B.length := by omega
        obtain ⟨kk, ss, nn, nx, ex, hrd2, hcall2⟩ := end_form B (j + v) 4 ((B.drop j).take v) 0 hl hle
        refine ⟨kk, ss, nn, nx, ex, ?_, fun w => ?_⟩
        · unfold Rp.bulkR
          rw [if_neg hh, hR]
          show RdL _ (if (t.length : Int) < (v : Int) then _ else _) _ _ _ _ _
          rw [if_neg hlt, Int.toNat_natCast, ← hdrj, List.drop_drop]
          exact hrd2
        · have hng : ¬ (B.length : Int) - (j : Int) < (v : Int) := by omega
          have HC2 := Lib.hid hcall2
          rw [show (((j + v : Nat) : Nat) : Int) = (j : Int) + (v : Int) from by omega] at HC2
          have hcut : ∀ W : World, (Instr.slice 9 (.string ⟨B.toArray⟩) (some (.int .i64 (j : Int))) (some (.int .i64 ((j : Int) + (v : Int)))) none).run Tryz.prog W = .ok (.string ⟨((B.drop j).take v).toArray⟩) W := fun W => by
            have := cut_at B j (j + v) (by omega) hle W
            rwa [show j + v - j = v by omega, show (((j + v : Nat) : Nat) : Int) = (j : Int) + (v : Int) from by omega] at this
          have HCUT := Lib.hid hcut
          clear hR hh hdev hdrj hnx hcall2 hrd2 hlt hcut
          obtain ⟨w1, hw1⟩ : ∃ w1, w.alloc (.cells #[.int .i64 0, .string ⟨#[]⟩, .int .i64 0, .slice none 0 0, .int .i64 0, .int .i64 0] 51) = w1 := ⟨_, rfl⟩
          have hz : Rd6 w1 w.heap.size (.int .i64 0) (.string ⟨#[]⟩) (.int .i64 0) (.slice none 0 0) (.int .i64 0) (.int .i64 0) := by rw [← hw1]; exact Rd6.new w _ _ _ _ _ _
          have hb1 : Below w.heap.size w w1 := by rw [← hw1]; exact (Below.refl _ w).alloc (Nat.le_refl _) _
          have hsz : w1.heap.size = w.heap.size + 1 := by rw [← hw1]; simp
          have HW1 := Lib.hid hw1
          have HZ := Lib.hid hz
          have HB := Lib.hid hb1
          clear hw1 hz hb1
          go_enter Tryz.func55, Tryz.ntmps55
          go_upto_region 1 with (fail)
          rw [show w.alloc (.cells #[.int .i64 0, .string ⟨#[]⟩, .int .i64 0, .slice none 0 0, .int .i64 0, .int .i64 0] 51) = w1 from HW1.out]
          clear HW1
          go_wp2_with fail
          refine (HCALL.out w1).mono ?_
          rintro e w2 ⟨rfl, hb2⟩
          go_upto_region 8 with (fail)
          obtain ⟨w3, hw3⟩ : ∃ w3, w2.alloc (.cells #[.int .i64 0, .string ⟨#[]⟩, .int .i64 (v : Int), .slice none 0 0, .int .i64 (j : Int), .int .i64 0] 51) = w3 := ⟨_, rfl⟩
          rw [hw3]
          have hy := Rd6.new w2 (.int .i64 0) (.string ⟨#[]⟩) (.int .i64 (v : Int)) (.slice none 0 0) (.int .i64 (j : Int)) (.int .i64 0)
          have hb3 : Below w2.heap.size w2 w3 := by rw [← hw3]; exact (Below.refl _ w2).alloc (Nat.le_refl _) _
          have hs3 : w3.heap.size = w2.heap.size + 1 := by rw [← hw3]; simp
          rw [hw3] at hy
          obtain ⟨y0, y1, y2, y3, y4, y5⟩ := hy.cells
          have HZ3 := Lib.hid ((HZ.out.later hb2).later hb3)
          have HB3 := Lib.hid ((HB.out.trans (hb2.mono HB.out.size)).trans (hb3.mono (HB.out.trans (hb2.mono HB.out.size)).size))
          have hz2 : w1.heap.size ≤ w2.heap.size := hb2.size
          clear hw3 hb2 hb3 hy
          go_upto_region 12 with (fail)
          have hcut := HCUT.out
          generalize (B.drop j).take v = SS at hcut HC2
          have hlt3 : w2.heap.size < w3.heap.size := by omega
          have hne23 : w2.heap.size ≠ w.heap.size := by omega
          go_region_held3 (fun W' => W'.cell? ⟨w2.heap.size, 2, none⟩ = some (.int .i64 (v : Int)) ∧ W'.cell? ⟨w2.heap.size, 4, none⟩ = some (.int .i64 (j : Int)))
            (first | (with_reducible exact ⟨k2, k4⟩) | go_keep | exact ⟨k2s _ _ _ _ _ _, k4s _ _ _ _ _ _⟩)
            ((go_at_call 76; refine (HC2.out _).mono ?_; rintro e w5 ⟨rfl, hb5⟩; have hbw5 : Below w3.heap.size w3 w5 := ((Below.refl w3.heap.size w3).drew).trans hb5; have k2 := (hbw5.cell (p := ⟨w2.heap.size, 2, none⟩) hlt3).trans y2; have k4 := (hbw5.cell (p := ⟨w2.heap.size, 4, none⟩) hlt3).trans y4; have k2s := fun x0 x1 x2 x3 x4 x5 => (set6_cell w5 (b := w.heap.size) (j := 2) hne23 x0 x1 x2 x3 x4 x5).trans k2; have k4s := fun x0 x1 x2 x3 x4 x5 => (set6_cell w5 (b := w.heap.size) (j := 4) hne23 x0 x1 x2 x3 x4 x5).trans k4; unfold set6 at k2s k4s; obtain ⟨z0, z1, z2, z3, z4, z5⟩ := (HZ3.out.later hbw5).cells; obtain ⟨f0, f1, f2, f3, f4, f5⟩ := (HZ3.out.later hbw5).cells'))
          have HZ5 := Lib.hid (HZ3.out.later hbw5)
          have HB5 := Lib.hid (HB3.out.trans (hbw5.mono HB3.out.size))
          clear hb5 hbw5 k2 k4 k2s k4s
          go_wp2
          have hs := HZ5.out.set (.int .i64 kk) (.string ss) (.int .i64 nn) (.slice none 0 0) (.int .i64 nx) (.int .i64 ex)
          have hb := set6_below HB5.out (b := w.heap.size) (by omega) (.int .i64 kk) (.string ss) (.int .i64 nn) (.slice none 0 0) (.int .i64 nx) (.int .i64 ex)
          show bodyPost _ _ _ .ret _ (set6 w5 (w.heap.size) (.int .i64 kk) (.string ss) (.int .i64 nn) (.slice none 0 0) (.int .i64 nx) (.int .i64 ex))
          generalize set6 w5 (w.heap.size) (.int .i64 kk) (.string ss) (.int .i64 nn) (.slice none 0 0) (.int .i64 nx) (.int .i64 ex) = wend at hs hb
          exact bodyPost_ret (results_cell rfl rfl (loadRd hs)) rfl ⟨rfl, hb⟩
end Go.Proofs.YtbkhnnjjpelfcaaGreatDoor
