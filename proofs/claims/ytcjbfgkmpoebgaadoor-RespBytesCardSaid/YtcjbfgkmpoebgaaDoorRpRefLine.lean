/- The contract of the reference's line. -/
import Derived.Test.YtcjbfgkmpoebgaaDoorRpRefEnd
namespace Go.Proofs.YtcjbfgkmpoebgaaDoor
open Go.RowKit Go.Shelf
attribute [local go_sem] Oper.semAt_some
set_option linter.unusedVariables false
set_option linter.unusedSimpArgs false

theorem cut_at (B : List UInt8) (i j : Nat) (h : i ≤ j) (hj : j ≤ B.length) (W : World) : (Instr.slice 9 (.string ⟨B.toArray⟩) (some (.int .i64 (i : Int))) (some (.int .i64 (j : Int))) none).run Tryd.prog W = .ok (.string ⟨((B.drop i).take (j - i)).toArray⟩) W := by
  have hs : (⟨B.toArray⟩ : ByteArray).size = B.length := by simp [ByteArray.size]
  rw [run_slice_string_if W 9 ⟨B.toArray⟩ .i64 .i64 (i : Int) (j : Int) Tryd.underlying9, if_pos ⟨by omega, by rw [hs]; omega⟩, if_pos ⟨by omega, by omega⟩, Int.toNat_natCast, Int.toNat_natCast]
  congr 2
  apply ByteArray.ext
  apply Array.toList_inj.1
  rw [Lib.extract_data]

theorem take_next {B : List UInt8} {i q : Nat} (h : i ≤ q) (hq : q < B.length) : (B.drop i).take (q + 1 - i) = (B.drop i).take (q - i) ++ [B.getD q 0] := by
  rw [show q + 1 - i = (q - i) + 1 by omega, List.take_succ_eq_append_getElem (by rw [List.length_drop]; omega), List.getElem_drop]
  simp [List.getD, show i + (q - i) = q by omega, hq]

/-- what is told of a text read. -/
def LineOut (n : Nat) (k : Int) (w : World) (o : Rp.Out (List UInt8)) (e : Ending) (W : World) : Prop :=
  (match o with
    | .ok s t => e = .returned (.agg #[.int .i64 k, .string ⟨s.toArray⟩, .int .i64 0, .slice none 0 0, .int .i64 ((n : Int) - (t.length : Int)), .int .i64 0])
    | .err c => c ≠ 0 ∧ e = .returned (badV c)) ∧ Below w.heap.size w W

theorem endP_as {α β : Type} (a : α) (b : β) (l : List UInt8) : (match Rp.endP a l with | .ok _ t => Rp.endP b l = .ok b t | .err c => Rp.endP b l = .err c) := by
  unfold Rp.endP
  cases l with
  | nil => rfl
  | cons x r =>
    simp only
    split
    · rename_i h
      split at h
      · rename_i hx
        rw [if_pos hx]
        cases r with
        | nil => cases h
        | cons y t =>
          simp only at h ⊢
          split at h
          · rename_i hy
            rw [if_pos hy]
            injection h with h1 h2
            rw [h2]
          · cases h
      · cases h
    · rename_i h
      split at h
      · rename_i hx
        rw [if_pos hx]
        cases r with
        | nil => injection h with h; simp only [h]
        | cons y t =>
          simp only at h ⊢
          split at h
          · cases h
          · rename_i hy
            rw [if_neg hy]
            injection h with h
            rw [h]
      · rename_i hx
        rw [if_neg hx]
        injection h with h
        rw [h]

set_option maxRecDepth 100000 in
set_option maxHeartbeats 8000000 in
theorem line_ref (B : List UInt8) (at_ : Nat) (kind : Int) (w : World) (hl : B.length ≤ 1000) (hi : at_ ≤ B.length) :
    Calls Tryd.prog 42 #[.string ⟨B.toArray⟩, .int .i64 (at_ : Int), .int .i64 kind] w (LineOut B.length kind w (Rp.lineP (B.drop at_))) := by
  obtain ⟨w1, hw1⟩ : ∃ w1, w.alloc (.cells #[.int .i64 0, .string ⟨#[]⟩, .int .i64 0, .slice none 0 0, .int .i64 0, .int .i64 0] 36) = w1 := ⟨_, rfl⟩
  have hz : Rd6 w1 w.heap.size (.int .i64 0) (.string ⟨#[]⟩) (.int .i64 0) (.slice none 0 0) (.int .i64 0) (.int .i64 0) := by rw [← hw1]; exact Rd6.new w _ _ _ _ _ _
  have hb1 : Below w.heap.size w w1 := by rw [← hw1]; exact (Below.refl _ w).alloc (Nat.le_refl _) _
  have hsz : w.heap.size < w1.heap.size := by rw [← hw1]; simp
  have HW1 := Lib.hid hw1
  have HZ := Lib.hid hz
  have HB := Lib.hid hb1
  have hlI : (B.length : Int) ≤ 1000 := by omega
  have a0 : (0 : Int) ≤ (at_ : Int) := by omega
  have aL : (at_ : Int) ≤ (B.length : Int) := by omega
  clear hw1 hz hb1
  go_enter Tryd.func42, Tryd.ntmps42
  go_upto_region 1 with (fail)
  rw [show w.alloc (.cells #[.int .i64 0, .string ⟨#[]⟩, .int .i64 0, .slice none 0 0, .int .i64 0, .int .i64 0] 36) = w1 from HW1.out]
  clear HW1
  go_wp2
  go_loop [7] (fun i => ∃ q : Nat, at_ ≤ q ∧ q ≤ B.length ∧ i = .int .i64 (q : Int) ∧ q - at_ ≤ 512 ∧ Hid (Rp.lineL ((B.drop at_).take (q - at_)) (B.drop q) = Rp.lineP (B.drop at_))) (fun i => (B.length : Int).toNat + 1 - (intOf i).toNat)
  case atStart => exact ⟨at_, Nat.le_refl _, hi, rfl, by omega, Lib.hid (by
    rw [Nat.sub_self, List.take_zero, Rp.lineL_dev _ _ rfl (by decide), List.nil_append])⟩
  case round =>
    obtain ⟨q, hq0, hq1, rfl, hq5, HQ⟩ := hrel
    have hpl : ((B.drop at_).take (q - at_)).length = q - at_ := by rw [List.length_take, List.length_drop]; omega
    have HCUT := Lib.hid (fun W => cut_at B at_ q hq0 hq1 W)
    have HEND := Lib.hid (fun s W => end_any B q kind s 0 W hl hq1)
    have q0 : (0 : Int) ≤ (q : Int) := by omega
    have qa : (at_ : Int) ≤ (q : Int) := by omega
    have qL : (q : Int) ≤ (B.length : Int) := by omega
    have wq1 : IntKind.i64.wrap ((q : Int) + 1) = (q : Int) + 1 := IntWalk.i64_in _ (by omega)
    have wqa : IntKind.i64.wrap ((q : Int) - (at_ : Int)) = (q : Int) - (at_ : Int) := IntWalk.i64_in _ (by omega)
    by_cases h1 : q < B.length
    · have h1I : (q : Int) < (B.length : Int) := by omega
      have hix := idx_at B q h1
      have hdr := drop_at h1
      obtain ⟨c, hc⟩ : ∃ c, B.getD q 0 = c := ⟨_, rfl⟩
      rw [hc] at hdr hix
      obtain ⟨y, hy⟩ : ∃ y : Int, (c.toNat : Int) = y := ⟨_, rfl⟩
      rw [hy] at hix
      have hQ := HQ.out
      rw [hdr, Rp.lineL, hpl] at hQ
      by_cases h13 : c = 13
      · have hy13 : y = 13 := by rw [← hy, h13]; rfl
        subst hy13
        rw [if_pos h13, ← hdr] at hQ
        have HR := Lib.hid hQ
        have hcut := HCUT.out
        generalize (B.drop at_).take (q - at_) = S at *
        clear hdr hc hy hQ HQ hpl
        go_wp2_with fail
        refine (HEND.out S w1).mono ?_
        rintro e w2 ⟨ho, hb2⟩
        have has := endP_as () S (B.drop q)
        have HZ2 := Lib.hid (HZ.out.later hb2)
        have HB2 := Lib.hid (HB.out.trans (hb2.mono HB.out.size))
        obtain ⟨z0, z1, z2, z3, z4, z5⟩ := HZ2.out.cells
        obtain ⟨f0, f1, f2, f3, f4, f5⟩ := HZ2.out.cells'
        clear hb2
        generalize Rp.endP () (B.drop q) = o at ho has
        cases o with
        | ok u t =>
          simp only at ho has
          have HR2 : Hid (Rp.lineP (B.drop at_) = .ok S t) := Lib.hid (by rw [← HR.out, has])
          subst ho
          clear has HR HEND HCUT hcut
          go_wp2
          have hs := HZ2.out.set (.int .i64 kind) (.string ⟨S.toArray⟩) (.int .i64 0) (.slice none 0 0) (.int .i64 ((B.length : Int) - (t.length : Int))) (.int .i64 0)
          have hb := set6_below HB2.out (b := w.heap.size) (by omega) (.int .i64 kind) (.string ⟨S.toArray⟩) (.int .i64 0) (.slice none 0 0) (.int .i64 ((B.length : Int) - (t.length : Int))) (.int .i64 0)
          show bodyPost _ _ _ .ret _ (set6 w2 (w.heap.size) (.int .i64 kind) (.string ⟨S.toArray⟩) (.int .i64 0) (.slice none 0 0) (.int .i64 ((B.length : Int) - (t.length : Int))) (.int .i64 0))
          generalize set6 w2 (w.heap.size) (.int .i64 kind) (.string ⟨S.toArray⟩) (.int .i64 0) (.slice none 0 0) (.int .i64 ((B.length : Int) - (t.length : Int))) (.int .i64 0) = wend at hs hb
          exact bodyPost_ret (results_cell rfl rfl (loadRd hs)) rfl ⟨by rw [HR2.out], hb⟩
        | err c =>
          simp only at ho has
          obtain ⟨hc0, ho⟩ := ho
          have HR2 : Hid (Rp.lineP (B.drop at_) = .err c) := Lib.hid (by rw [← HR.out, has])
          subst ho
          unfold badV
          clear has HR HEND HCUT hcut
          go_wp2
          have hs := HZ2.out.set (.int .i64 0) (.string ⟨#[]⟩) (.int .i64 0) (.slice none 0 0) (.int .i64 0) (.int .i64 c)
          have hb := set6_below HB2.out (b := w.heap.size) (by omega) (.int .i64 0) (.string ⟨#[]⟩) (.int .i64 0) (.slice none 0 0) (.int .i64 0) (.int .i64 c)
          show bodyPost _ _ _ .ret _ (set6 w2 (w.heap.size) (.int .i64 0) (.string ⟨#[]⟩) (.int .i64 0) (.slice none 0 0) (.int .i64 0) (.int .i64 c))
          generalize set6 w2 (w.heap.size) (.int .i64 0) (.string ⟨#[]⟩) (.int .i64 0) (.slice none 0 0) (.int .i64 0) (.int .i64 c) = wend at hs hb
          exact bodyPost_ret (results_cell rfl rfl (loadRd hs)) rfl ⟨by rw [HR2.out]; exact ⟨hc0, rfl⟩, hb⟩
      · have hy13 : (y == 13) = false := by rw [beq_eq_false_iff_ne]; intro h; exact h13 (UInt8.toNat_inj.1 (by have : (13 : UInt8).toNat = 13 := rfl; omega))
        have hyn : ¬ y = 13 := beq_eq_false_iff_ne.1 hy13
        rw [if_neg h13] at hQ
        by_cases h10 : c = 10
        · have hy10 : y = 10 := by rw [← hy, h10]; rfl
          subst hy10
          have HR : Hid (Rp.lineP (B.drop at_) = .err 5) := Lib.hid (by rw [← hQ, if_pos (.inl h10)])
          clear hdr hc hy hQ HQ hpl HCUT HEND
          go_wp2_with fail
          refine (bad_any 5 w1).mono ?_
          rintro e wb ⟨rfl, hbb⟩
          unfold badV
          have HZb := Lib.hid (HZ.out.later hbb)
          have HBb := Lib.hid (HB.out.trans (hbb.mono HB.out.size))
          obtain ⟨z0, z1, z2, z3, z4, z5⟩ := HZb.out.cells
          obtain ⟨f0, f1, f2, f3, f4, f5⟩ := HZb.out.cells'
          clear hbb
          go_wp2
          have hs := HZb.out.set (.int .i64 0) (.string ⟨#[]⟩) (.int .i64 0) (.slice none 0 0) (.int .i64 0) (.int .i64 5)
          have hb := set6_below HBb.out (b := w.heap.size) (by omega) (.int .i64 0) (.string ⟨#[]⟩) (.int .i64 0) (.slice none 0 0) (.int .i64 0) (.int .i64 5)
          show bodyPost _ _ _ .ret _ (set6 wb (w.heap.size) (.int .i64 0) (.string ⟨#[]⟩) (.int .i64 0) (.slice none 0 0) (.int .i64 0) (.int .i64 5))
          generalize set6 wb (w.heap.size) (.int .i64 0) (.string ⟨#[]⟩) (.int .i64 0) (.slice none 0 0) (.int .i64 0) (.int .i64 5) = wend at hs hb
          exact bodyPost_ret (results_cell rfl rfl (loadRd hs)) rfl ⟨by rw [HR.out]; exact ⟨by decide, rfl⟩, hb⟩
        · have hy10 : (y == 10) = false := by rw [beq_eq_false_iff_ne]; intro h; exact h10 (UInt8.toNat_inj.1 (by have : (10 : UInt8).toNat = 10 := rfl; omega))
          have hyn0 : ¬ y = 10 := beq_eq_false_iff_ne.1 hy10
          by_cases h512 : 512 ≤ q - at_
          · have h5I : (512 : Int) ≤ (q : Int) - (at_ : Int) := by omega
            have HR : Hid (Rp.lineP (B.drop at_) = .err 5) := Lib.hid (by rw [← hQ, if_pos (.inr h512)])
            clear hdr hc hy hQ HQ hpl HCUT HEND
            go_wp2_with fail
            refine (bad_any 5 w1).mono ?_
            rintro e wb ⟨rfl, hbb⟩
            unfold badV
            have HZb := Lib.hid (HZ.out.later hbb)
            have HBb := Lib.hid (HB.out.trans (hbb.mono HB.out.size))
            obtain ⟨z0, z1, z2, z3, z4, z5⟩ := HZb.out.cells
            obtain ⟨f0, f1, f2, f3, f4, f5⟩ := HZb.out.cells'
            clear hbb
            go_wp2
            have hs := HZb.out.set (.int .i64 0) (.string ⟨#[]⟩) (.int .i64 0) (.slice none 0 0) (.int .i64 0) (.int .i64 5)
            have hb := set6_below HBb.out (b := w.heap.size) (by omega) (.int .i64 0) (.string ⟨#[]⟩) (.int .i64 0) (.slice none 0 0) (.int .i64 0) (.int .i64 5)
            show bodyPost _ _ _ .ret _ (set6 wb (w.heap.size) (.int .i64 0) (.string ⟨#[]⟩) (.int .i64 0) (.slice none 0 0) (.int .i64 0) (.int .i64 5))
            generalize set6 wb (w.heap.size) (.int .i64 0) (.string ⟨#[]⟩) (.int .i64 0) (.slice none 0 0) (.int .i64 0) (.int .i64 5) = wend at hs hb
            exact bodyPost_ret (results_cell rfl rfl (loadRd hs)) rfl ⟨by rw [HR.out]; exact ⟨by decide, rfl⟩, hb⟩
          · have h5I : ¬ (512 : Int) ≤ (q : Int) - (at_ : Int) := by omega
            have HQ2 : Hid (Rp.lineL ((B.drop at_).take (q + 1 - at_)) (B.drop (q + 1)) = Rp.lineP (B.drop at_)) := Lib.hid (by
              rw [← hQ, if_neg (by rintro (h | h); exact h10 h; exact h512 h)]
              rw [take_next hq0 h1, hc])
            clear hdr hc hy hQ HQ hpl HCUT HEND
            go_wp2_with fail
            go_round
            case rel => exact ⟨q + 1, by omega, by omega, by go_num, by omega, HQ2⟩
            case measure => simp [intOf]; omega
    · obtain rfl : q = B.length := by omega
      have h1I : ¬ (B.length : Int) < (B.length : Int) := by omega
      have hQ := HQ.out
      rw [drop_end (Nat.le_refl _), Rp.lineL] at hQ
      have HR : Hid (Rp.endP ((B.drop at_).take (B.length - at_)) (B.drop B.length) = Rp.lineP (B.drop at_)) := Lib.hid (by rw [← hQ, drop_end (Nat.le_refl _)]; rfl)
      have hcut := HCUT.out
      generalize (B.drop at_).take (B.length - at_) = S at *
      clear hQ HQ hpl
      go_wp2_with fail
      refine (HEND.out S w1).mono ?_
      rintro e w2 ⟨ho, hb2⟩
      have has := endP_as () S (B.drop B.length)
      have HZ2 := Lib.hid (HZ.out.later hb2)
      have HB2 := Lib.hid (HB.out.trans (hb2.mono HB.out.size))
      obtain ⟨z0, z1, z2, z3, z4, z5⟩ := HZ2.out.cells
      obtain ⟨f0, f1, f2, f3, f4, f5⟩ := HZ2.out.cells'
      clear hb2
      generalize Rp.endP () (B.drop B.length) = o at ho has
      cases o with
      | ok u t =>
        simp only at ho has
        have HR2 : Hid (Rp.lineP (B.drop at_) = .ok S t) := Lib.hid (by rw [← HR.out, has])
        subst ho
        clear has HR HEND HCUT hcut
        go_wp2
        have hs := HZ2.out.set (.int .i64 kind) (.string ⟨S.toArray⟩) (.int .i64 0) (.slice none 0 0) (.int .i64 ((B.length : Int) - (t.length : Int))) (.int .i64 0)
        have hb := set6_below HB2.out (b := w.heap.size) (by omega) (.int .i64 kind) (.string ⟨S.toArray⟩) (.int .i64 0) (.slice none 0 0) (.int .i64 ((B.length : Int) - (t.length : Int))) (.int .i64 0)
        show bodyPost _ _ _ .ret _ (set6 w2 (w.heap.size) (.int .i64 kind) (.string ⟨S.toArray⟩) (.int .i64 0) (.slice none 0 0) (.int .i64 ((B.length : Int) - (t.length : Int))) (.int .i64 0))
        generalize set6 w2 (w.heap.size) (.int .i64 kind) (.string ⟨S.toArray⟩) (.int .i64 0) (.slice none 0 0) (.int .i64 ((B.length : Int) - (t.length : Int))) (.int .i64 0) = wend at hs hb
        exact bodyPost_ret (results_cell rfl rfl (loadRd hs)) rfl ⟨by rw [HR2.out], hb⟩
      | err c =>
        simp only at ho has
        obtain ⟨hc0, ho⟩ := ho
        have HR2 : Hid (Rp.lineP (B.drop at_) = .err c) := Lib.hid (by rw [← HR.out, has])
        subst ho
        unfold badV
        clear has HR HEND HCUT hcut
        go_wp2
        have hs := HZ2.out.set (.int .i64 0) (.string ⟨#[]⟩) (.int .i64 0) (.slice none 0 0) (.int .i64 0) (.int .i64 c)
        have hb := set6_below HB2.out (b := w.heap.size) (by omega) (.int .i64 0) (.string ⟨#[]⟩) (.int .i64 0) (.slice none 0 0) (.int .i64 0) (.int .i64 c)
        show bodyPost _ _ _ .ret _ (set6 w2 (w.heap.size) (.int .i64 0) (.string ⟨#[]⟩) (.int .i64 0) (.slice none 0 0) (.int .i64 0) (.int .i64 c))
        generalize set6 w2 (w.heap.size) (.int .i64 0) (.string ⟨#[]⟩) (.int .i64 0) (.slice none 0 0) (.int .i64 0) (.int .i64 c) = wend at hs hb
        exact bodyPost_ret (results_cell rfl rfl (loadRd hs)) rfl ⟨by rw [HR2.out]; exact ⟨hc0, rfl⟩, hb⟩
end Go.Proofs.YtcjbfgkmpoebgaaDoor
