/- The contract of the reference's number. -/
import Derived.Test.YtcjbfgkmpoebgaaDoorRpRefLine
namespace Go.Proofs.YtcjbfgkmpoebgaaDoor
open Go.RowKit Go.Shelf
attribute [local go_sem] Oper.semAt_some
set_option linter.unusedVariables false
set_option linter.unusedSimpArgs false

/-- what is told of a number read. -/
def NumbOut (n : Nat) (w : World) (o : Rp.Out Int) (e : Ending) (W : World) : Prop :=
  (match o with
    | .ok v t => e = .returned (.agg #[.int .i64 0, .string ⟨#[]⟩, .int .i64 v, .slice none 0 0, .int .i64 ((n : Int) - (t.length : Int)), .int .i64 0])
    | .err c => c ≠ 0 ∧ e = .returned (badV c)) ∧ Below w.heap.size w W

theorem numL_digit {neg : Bool} {M : Nat} {fst : Bool} {u : Nat} {c : UInt8} {r : List UInt8} (h : 48 ≤ c.toNat ∧ c.toNat ≤ 57) : Rp.numL neg M fst u (c :: r) = if (fst = false ∧ u = 0) ∨ (neg = true ∧ fst = true ∧ c.toNat = 48) ∨ M < 10 * u + (c.toNat - 48) then .err 5 else Rp.numL neg M false (10 * u + (c.toNat - 48)) r := by
  rw [Rp.numL, if_pos h]
theorem numL_other {neg : Bool} {M : Nat} {fst : Bool} {u : Nat} {c : UInt8} {r : List UInt8} (h : ¬ (48 ≤ c.toNat ∧ c.toNat ≤ 57)) : Rp.numL neg M fst u (c :: r) = if fst = true then .err 5 else Rp.endP (if neg = true then -(u : Int) else (u : Int)) (c :: r) := by
  rw [Rp.numL, if_neg h]

set_option maxRecDepth 100000 in
set_option maxHeartbeats 8000000 in
theorem number_minus (B : List UInt8) (at_ : Nat) (low : Bool) (m : Nat) (w : World) (hl : B.length ≤ 1000) (hi : at_ ≤ B.length) (hm9 : 9 ≤ m) (hm : m ≤ 9223372036854775807) (hh : (B.drop at_).head? = some 45) :
    Calls Tryd.prog 43 #[.string ⟨B.toArray⟩, .int .i64 (at_ : Int), .bool low, .int .u64 (m : Int)] w (NumbOut B.length w (Rp.refN low m (B.drop at_))) := by
  obtain ⟨w1, hw1⟩ : ∃ w1, w.alloc (.cells #[.int .i64 0, .string ⟨#[]⟩, .int .i64 0, .slice none 0 0, .int .i64 0, .int .i64 0] 36) = w1 := ⟨_, rfl⟩
  have hz : Rd6 w1 w.heap.size (.int .i64 0) (.string ⟨#[]⟩) (.int .i64 0) (.slice none 0 0) (.int .i64 0) (.int .i64 0) := by rw [← hw1]; exact Rd6.new w _ _ _ _ _ _
  have hb1 : Below w.heap.size w w1 := by rw [← hw1]; exact (Below.refl _ w).alloc (Nat.le_refl _) _
  have hsz : w.heap.size < w1.heap.size := by rw [← hw1]; simp
  have HW1 := Lib.hid hw1
  have HZ := Lib.hid hz
  have HB := Lib.hid hb1
  have hlI : (B.length : Int) ≤ 1000 := by omega
  have a0 : (0 : Int) ≤ (at_ : Int) := by omega
  have aL : (at_ : Int) ≤ (B.length : Int) := by omega
  have wa1 : IntKind.i64.wrap ((at_ : Int) + 1) = (at_ : Int) + 1 := IntWalk.i64_in _ (by omega)
  clear hw1 hz hb1
  have h1 : at_ < B.length := by
    rcases Nat.lt_or_ge at_ B.length with h | h
    · exact h
    · rw [drop_end h] at hh; cases hh
  have h1I : (at_ : Int) < (B.length : Int) := by omega
  have hix := idx_at B at_ h1
  have hdr := drop_at h1
  have hc : B.getD at_ 0 = 45 := by rw [hdr] at hh; simpa using hh
  rw [hc] at hix
  have hix' : ∀ W : World, (Instr.index 9 (.string ⟨B.toArray⟩) (.int .i64 (at_ : Int))).run Tryd.prog W = .ok (.int .u8 45) W := hix
  clear hix
  cases low with
  | false =>
    have HR := Lib.hid (show Rp.refN false m (B.drop at_) = .err 5 by unfold Rp.refN; rw [if_pos hh, if_neg (by decide)])
    clear hdr hc hh
    go_enter Tryd.func43, Tryd.ntmps43
    go_upto_region 1 with (fail)
    rw [show w.alloc (.cells #[.int .i64 0, .string ⟨#[]⟩, .int .i64 0, .slice none 0 0, .int .i64 0, .int .i64 0] 36) = w1 from HW1.out]
    clear HW1
    go_wp2_with fail
    refine (bad_any 5 w1).mono ?_
    rintro e wb ⟨rfl, hbb⟩
    unfold badV
    have HZb := Lib.hid (HZ.out.later hbb)
    have HBb := Lib.hid (HB.out.trans (hbb.mono HB.out.size))
    obtain ⟨z0, z1, z2, z3, z4, z5⟩ := HZb.out.cells
    obtain ⟨f0, f1, f2, f3, f4, f5⟩ := HZb.out.cells'
    clear hbb
    go_wp2
    have hs := HZb.out.set (.int .i64 0) (.string ⟨#[]⟩) (.int .i64 0) (.slice none 0 0) (.int .i64 0) (.int .i64 5)
    have hb := set6_below HBb.out (b := w.heap.size) (by omega) (.int .i64 0) (.string ⟨#[]⟩) (.int .i64 0) (.slice none 0 0) (.int .i64 0) (.int .i64 5)
    show bodyPost _ _ _ .ret _ (set6 wb (w.heap.size) (.int .i64 0) (.string ⟨#[]⟩) (.int .i64 0) (.slice none 0 0) (.int .i64 0) (.int .i64 5))
    generalize set6 wb (w.heap.size) (.int .i64 0) (.string ⟨#[]⟩) (.int .i64 0) (.slice none 0 0) (.int .i64 0) (.int .i64 5) = wend at hs hb
    exact bodyPost_ret (results_cell rfl rfl (loadRd hs)) rfl ⟨by rw [HR.out]; exact ⟨by decide, rfl⟩, hb⟩
  | true =>
    obtain ⟨k0, hk0⟩ : ∃ k0, at_ + 1 = k0 := ⟨_, rfl⟩
    obtain ⟨M, hM⟩ : ∃ M, m + 1 = M := ⟨_, rfl⟩
    have HS := Lib.hid (show Rp.numL true M true 0 (B.drop k0) = Rp.refN true m (B.drop at_) by unfold Rp.refN; rw [if_pos hh, if_pos rfl, List.drop_drop, hk0, hM])
    have hkI : (at_ : Int) + 1 = (k0 : Int) := by omega
    have hMI : (m : Int) + 1 = (M : Int) := by omega
    have wM : IntKind.u64.wrap ((m : Int) + 1) = (M : Int) := by rw [IntKind.wrap_u64]; omega
    have hkL : k0 ≤ B.length := by omega
    generalize Rp.refN true m (B.drop at_) = R at HS ⊢
    generalize hlow : true = low
    clear hdr hc hh hk0
    go_enter Tryd.func43, Tryd.ntmps43
    go_upto_region 1 with (fail)
    rw [show w.alloc (.cells #[.int .i64 0, .string ⟨#[]⟩, .int .i64 0, .slice none 0 0, .int .i64 0, .int .i64 0] 36) = w1 from HW1.out]
    clear HW1
    subst hlow
    go_wp2_with fail
    go_loop [9, 11, 13] (fun i u _ => ∃ (q : Nat) (U : Int), k0 ≤ q ∧ q ≤ B.length ∧ i = .int .i64 (q : Int) ∧ u = .int .u64 U ∧ 0 ≤ U ∧ U ≤ (M : Int) ∧ (q = k0 → U = 0) ∧ Hid (Rp.numL true M (decide (q = k0)) U.toNat (B.drop q) = R)) (fun i _ _ => (B.length : Int).toNat + 1 - (intOf i).toNat)
    case atStart => exact ⟨k0, 0, Nat.le_refl _, hkL, rfl, rfl, by decide, by omega, fun _ => rfl, Lib.hid (by rw [decide_eq_true rfl]; exact HS.out)⟩
    case round =>
      obtain ⟨q, U, hq0, hq1, rfl, rfl, u0, uM, hU0, HQ⟩ := hrel
      have HEND := Lib.hid (fun n W => end_any B q 0 [] n W hl hq1)
      have q0 : (0 : Int) ≤ (q : Int) := by omega
      have qk : (k0 : Int) ≤ (q : Int) := by omega
      have qL : (q : Int) ≤ (B.length : Int) := by omega
      have wq1 : IntKind.i64.wrap ((q : Int) + 1) = (q : Int) + 1 := IntWalk.i64_in _ (by omega)
      obtain ⟨X, hX⟩ : ∃ X, IntKind.i64.wrap U = X := ⟨_, rfl⟩
      obtain ⟨Y, hY⟩ : ∃ Y, IntKind.u64.wrap (-U) = Y := ⟨_, rfl⟩
      have hY2 : IntKind.i64.wrap Y = -U := by rw [← hY, IntKind.wrap_u64, IntKind.wrap_i64]; omega
      by_cases h1 : q < B.length
      · have h1I : (q : Int) < (B.length : Int) := by omega
        have hne : ((q : Int) == (B.length : Int)) = false := by rw [beq_eq_false_iff_ne]; omega
        have hnm : ¬ (q : Int) = (B.length : Int) := by omega
        have hix := idx_at B q h1
        have hdr := drop_at h1
        obtain ⟨c, hc⟩ : ∃ c, B.getD q 0 = c := ⟨_, rfl⟩
        rw [hc] at hdr hix
        obtain ⟨y, hy⟩ : ∃ y : Int, (c.toNat : Int) = y := ⟨_, rfl⟩
        rw [hy] at hix
        have hcb := UInt8.toNat_lt c
        have y0 : 0 ≤ y := by omega
        have y9 : y ≤ 255 := by omega
        have hQ := HQ.out
        rw [hdr] at hQ
        clear HQ hcb
        by_cases h48 : y < 48
        · have h48n : ¬ (48 : Int) ≤ y := by omega
          have hnd : ¬ (48 ≤ c.toNat ∧ c.toNat ≤ 57) := by omega
          rw [numL_other hnd] at hQ
          by_cases hqk : q = k0
          · have HR : Hid (R = .err 5) := Lib.hid (by rw [← hQ, if_pos (by simp [hqk])])
            subst hqk
            clear hdr hc hy hQ hnd HEND hU0
            go_wp2_with fail
            refine (bad_any 5 w1).mono ?_
            rintro e wb ⟨rfl, hbb⟩
            unfold badV
            have HZb := Lib.hid (HZ.out.later hbb)
            have HBb := Lib.hid (HB.out.trans (hbb.mono HB.out.size))
            obtain ⟨z0, z1, z2, z3, z4, z5⟩ := HZb.out.cells
            obtain ⟨f0, f1, f2, f3, f4, f5⟩ := HZb.out.cells'
            clear hbb
            go_wp2
            have hs := HZb.out.set (.int .i64 0) (.string ⟨#[]⟩) (.int .i64 0) (.slice none 0 0) (.int .i64 0) (.int .i64 5)
            have hb := set6_below HBb.out (b := w.heap.size) (by omega) (.int .i64 0) (.string ⟨#[]⟩) (.int .i64 0) (.slice none 0 0) (.int .i64 0) (.int .i64 5)
            show bodyPost _ _ _ .ret _ (set6 wb (w.heap.size) (.int .i64 0) (.string ⟨#[]⟩) (.int .i64 0) (.slice none 0 0) (.int .i64 0) (.int .i64 5))
            generalize set6 wb (w.heap.size) (.int .i64 0) (.string ⟨#[]⟩) (.int .i64 0) (.slice none 0 0) (.int .i64 0) (.int .i64 5) = wend at hs hb
            exact bodyPost_ret (results_cell rfl rfl (loadRd hs)) rfl ⟨by rw [HR.out]; exact ⟨by decide, rfl⟩, hb⟩
          · have hqn : ((q : Int) == (k0 : Int)) = false := by rw [beq_eq_false_iff_ne]; omega
            have hqm : ¬ (q : Int) = (k0 : Int) := by omega
            have HR : Hid (Rp.endP (-U) (B.drop q) = R) := Lib.hid (by
              rw [← hQ, if_neg (by simp [hqk]), hdr]
              congr 1
              rw [if_pos rfl, Int.toNat_of_nonneg u0])
            clear hdr hc hy hQ hnd hU0 hqk
            have has := endP_as () (-U) (B.drop q)
            go_wp2_with fail
            refine (HEND.out (-U) w1).mono ?_
            rintro e w2 ⟨ho, hb2⟩
            have HZ2 := Lib.hid (HZ.out.later hb2)
            have HB2 := Lib.hid (HB.out.trans (hb2.mono HB.out.size))
            obtain ⟨z0, z1, z2, z3, z4, z5⟩ := HZ2.out.cells
            obtain ⟨f0, f1, f2, f3, f4, f5⟩ := HZ2.out.cells'
            clear hb2
            generalize Rp.endP () (B.drop q) = o at ho has
            cases o with
            | ok u t =>
              simp only at ho has
              have HR2 : Hid (R = .ok ((-U)) t) := Lib.hid (by rw [← HR.out, has])
              subst ho
              clear has HR HEND
              go_wp2
              have hs := HZ2.out.set (.int .i64 0) (.string ⟨#[]⟩) (.int .i64 (-U)) (.slice none 0 0) (.int .i64 ((B.length : Int) - (t.length : Int))) (.int .i64 0)
              have hb := set6_below HB2.out (b := w.heap.size) (by omega) (.int .i64 0) (.string ⟨#[]⟩) (.int .i64 (-U)) (.slice none 0 0) (.int .i64 ((B.length : Int) - (t.length : Int))) (.int .i64 0)
              show bodyPost _ _ _ .ret _ (set6 w2 (w.heap.size) (.int .i64 0) (.string ⟨#[]⟩) (.int .i64 (-U)) (.slice none 0 0) (.int .i64 ((B.length : Int) - (t.length : Int))) (.int .i64 0))
              generalize set6 w2 (w.heap.size) (.int .i64 0) (.string ⟨#[]⟩) (.int .i64 (-U)) (.slice none 0 0) (.int .i64 ((B.length : Int) - (t.length : Int))) (.int .i64 0) = wend at hs hb
              exact bodyPost_ret (results_cell rfl rfl (loadRd hs)) rfl ⟨by rw [HR2.out], hb⟩
            | err c =>
              simp only at ho has
              obtain ⟨hc0, ho⟩ := ho
              have HR2 : Hid (R = .err c) := Lib.hid (by rw [← HR.out, has])
              subst ho
              unfold badV
              clear has HR HEND
              go_wp2
              have hs := HZ2.out.set (.int .i64 0) (.string ⟨#[]⟩) (.int .i64 0) (.slice none 0 0) (.int .i64 0) (.int .i64 c)
              have hb := set6_below HB2.out (b := w.heap.size) (by omega) (.int .i64 0) (.string ⟨#[]⟩) (.int .i64 0) (.slice none 0 0) (.int .i64 0) (.int .i64 c)
              show bodyPost _ _ _ .ret _ (set6 w2 (w.heap.size) (.int .i64 0) (.string ⟨#[]⟩) (.int .i64 0) (.slice none 0 0) (.int .i64 0) (.int .i64 c))
              generalize set6 w2 (w.heap.size) (.int .i64 0) (.string ⟨#[]⟩) (.int .i64 0) (.slice none 0 0) (.int .i64 0) (.int .i64 c) = wend at hs hb
              exact bodyPost_ret (results_cell rfl rfl (loadRd hs)) rfl ⟨by rw [HR2.out]; exact ⟨hc0, rfl⟩, hb⟩
        · have h48p : (48 : Int) ≤ y := by omega
          by_cases h57 : 57 < y
          · have h57n : ¬ y ≤ (57 : Int) := by omega
            have hnd : ¬ (48 ≤ c.toNat ∧ c.toNat ≤ 57) := by omega
            rw [numL_other hnd] at hQ
            by_cases hqk : q = k0
            · have HR : Hid (R = .err 5) := Lib.hid (by rw [← hQ, if_pos (by simp [hqk])])
              subst hqk
              clear hdr hc hy hQ hnd HEND hU0
              go_wp2_with fail
              refine (bad_any 5 w1).mono ?_
              rintro e wb ⟨rfl, hbb⟩
              unfold badV
              have HZb := Lib.hid (HZ.out.later hbb)
              have HBb := Lib.hid (HB.out.trans (hbb.mono HB.out.size))
              obtain ⟨z0, z1, z2, z3, z4, z5⟩ := HZb.out.cells
              obtain ⟨f0, f1, f2, f3, f4, f5⟩ := HZb.out.cells'
              clear hbb
              go_wp2
              have hs := HZb.out.set (.int .i64 0) (.string ⟨#[]⟩) (.int .i64 0) (.slice none 0 0) (.int .i64 0) (.int .i64 5)
              have hb := set6_below HBb.out (b := w.heap.size) (by omega) (.int .i64 0) (.string ⟨#[]⟩) (.int .i64 0) (.slice none 0 0) (.int .i64 0) (.int .i64 5)
              show bodyPost _ _ _ .ret _ (set6 wb (w.heap.size) (.int .i64 0) (.string ⟨#[]⟩) (.int .i64 0) (.slice none 0 0) (.int .i64 0) (.int .i64 5))
              generalize set6 wb (w.heap.size) (.int .i64 0) (.string ⟨#[]⟩) (.int .i64 0) (.slice none 0 0) (.int .i64 0) (.int .i64 5) = wend at hs hb
              exact bodyPost_ret (results_cell rfl rfl (loadRd hs)) rfl ⟨by rw [HR.out]; exact ⟨by decide, rfl⟩, hb⟩
            · have hqn : ((q : Int) == (k0 : Int)) = false := by rw [beq_eq_false_iff_ne]; omega
              have hqm : ¬ (q : Int) = (k0 : Int) := by omega
              have HR : Hid (Rp.endP (-U) (B.drop q) = R) := Lib.hid (by
                rw [← hQ, if_neg (by simp [hqk]), hdr]
                congr 1
                rw [if_pos rfl, Int.toNat_of_nonneg u0])
              clear hdr hc hy hQ hnd hU0 hqk
              have has := endP_as () (-U) (B.drop q)
              go_wp2_with fail
              refine (HEND.out (-U) w1).mono ?_
              rintro e w2 ⟨ho, hb2⟩
              have HZ2 := Lib.hid (HZ.out.later hb2)
              have HB2 := Lib.hid (HB.out.trans (hb2.mono HB.out.size))
              obtain ⟨z0, z1, z2, z3, z4, z5⟩ := HZ2.out.cells
              obtain ⟨f0, f1, f2, f3, f4, f5⟩ := HZ2.out.cells'
              clear hb2
              generalize Rp.endP () (B.drop q) = o at ho has
              cases o with
              | ok u t =>
                simp only at ho has
                have HR2 : Hid (R = .ok ((-U)) t) := Lib.hid (by rw [← HR.out, has])
                subst ho
                clear has HR HEND
                go_wp2
                have hs := HZ2.out.set (.int .i64 0) (.string ⟨#[]⟩) (.int .i64 (-U)) (.slice none 0 0) (.int .i64 ((B.length : Int) - (t.length : Int))) (.int .i64 0)
                have hb := set6_below HB2.out (b := w.heap.size) (by omega) (.int .i64 0) (.string ⟨#[]⟩) (.int .i64 (-U)) (.slice none 0 0) (.int .i64 ((B.length : Int) - (t.length : Int))) (.int .i64 0)
                show bodyPost _ _ _ .ret _ (set6 w2 (w.heap.size) (.int .i64 0) (.string ⟨#[]⟩) (.int .i64 (-U)) (.slice none 0 0) (.int .i64 ((B.length : Int) - (t.length : Int))) (.int .i64 0))
                generalize set6 w2 (w.heap.size) (.int .i64 0) (.string ⟨#[]⟩) (.int .i64 (-U)) (.slice none 0 0) (.int .i64 ((B.length : Int) - (t.length : Int))) (.int .i64 0) = wend at hs hb
                exact bodyPost_ret (results_cell rfl rfl (loadRd hs)) rfl ⟨by rw [HR2.out], hb⟩
              | err c =>
                simp only at ho has
                obtain ⟨hc0, ho⟩ := ho
                have HR2 : Hid (R = .err c) := Lib.hid (by rw [← HR.out, has])
                subst ho
                unfold badV
                clear has HR HEND
                go_wp2
                have hs := HZ2.out.set (.int .i64 0) (.string ⟨#[]⟩) (.int .i64 0) (.slice none 0 0) (.int .i64 0) (.int .i64 c)
                have hb := set6_below HB2.out (b := w.heap.size) (by omega) (.int .i64 0) (.string ⟨#[]⟩) (.int .i64 0) (.slice none 0 0) (.int .i64 0) (.int .i64 c)
                show bodyPost _ _ _ .ret _ (set6 w2 (w.heap.size) (.int .i64 0) (.string ⟨#[]⟩) (.int .i64 0) (.slice none 0 0) (.int .i64 0) (.int .i64 c))
                generalize set6 w2 (w.heap.size) (.int .i64 0) (.string ⟨#[]⟩) (.int .i64 0) (.slice none 0 0) (.int .i64 0) (.int .i64 c) = wend at hs hb
                exact bodyPost_ret (results_cell rfl rfl (loadRd hs)) rfl ⟨by rw [HR2.out]; exact ⟨hc0, rfl⟩, hb⟩
          · have h57p : y ≤ (57 : Int) := by omega
            have hdg : 48 ≤ c.toNat ∧ c.toNat ≤ 57 := by omega
            rw [numL_digit hdg] at hQ
            have hcd : c.toNat - 48 = (y - 48).toNat := by omega
            have wd : IntKind.u8.wrap (y - 48) = y - 48 := by rw [IntKind.wrap_u8]; omega
            have wm : IntKind.u64.wrap ((M : Int) - (y - 48)) = (M : Int) - (y - 48) := by rw [IntKind.wrap_u64]; omega
            obtain ⟨Q, hQq⟩ : ∃ Q, ((M : Int) - (y - 48)) / 10 = Q := ⟨_, rfl⟩
            have hQt : ((M : Int) - (y - 48)).tdiv 10 = Q := by rw [Int.tdiv_eq_ediv_of_nonneg (by omega)]; exact hQq
            have HC48 := Lib.hid (show c.toNat = 48 ↔ y = 48 by omega)
            by_cases hqk : q = k0
            · obtain rfl := hU0 hqk
              rw [decide_eq_true hqk] at hQ
              subst hqk
              have hQ0 : (0 : Int) ≤ Q := by omega
              have hQ0n : ¬ Q < 0 := by omega
              by_cases hy48 : y = 48
              · have HR : Hid (R = .err 5) := Lib.hid (by rw [← hQ, if_pos (.inr (.inl ⟨rfl, rfl, HC48.out.2 hy48⟩))])
                have hd0 : (y - 48 == 0) = true := by simp; omega
                have hd1 : y - 48 = 0 := by omega
                clear hdr hc hy hQ HEND hcd hdg
                go_wp2_with fail
                refine (bad_any 5 w1).mono ?_
                rintro e wb ⟨rfl, hbb⟩
                unfold badV
                have HZb := Lib.hid (HZ.out.later hbb)
                have HBb := Lib.hid (HB.out.trans (hbb.mono HB.out.size))
                obtain ⟨z0, z1, z2, z3, z4, z5⟩ := HZb.out.cells
                obtain ⟨f0, f1, f2, f3, f4, f5⟩ := HZb.out.cells'
                clear hbb
                go_wp2
                have hs := HZb.out.set (.int .i64 0) (.string ⟨#[]⟩) (.int .i64 0) (.slice none 0 0) (.int .i64 0) (.int .i64 5)
                have hb := set6_below HBb.out (b := w.heap.size) (by omega) (.int .i64 0) (.string ⟨#[]⟩) (.int .i64 0) (.slice none 0 0) (.int .i64 0) (.int .i64 5)
                show bodyPost _ _ _ .ret _ (set6 wb (w.heap.size) (.int .i64 0) (.string ⟨#[]⟩) (.int .i64 0) (.slice none 0 0) (.int .i64 0) (.int .i64 5))
                generalize set6 wb (w.heap.size) (.int .i64 0) (.string ⟨#[]⟩) (.int .i64 0) (.slice none 0 0) (.int .i64 0) (.int .i64 5) = wend at hs hb
                exact bodyPost_ret (results_cell rfl rfl (loadRd hs)) rfl ⟨by rw [HR.out]; exact ⟨by decide, rfl⟩, hb⟩
              · have hd0 : (y - 48 == 0) = false := by rw [beq_eq_false_iff_ne]; omega
                have hd1 : ¬ y - 48 = 0 := by omega
                have HQ2 : Hid (Rp.numL true M (decide (q + 1 = q)) (y - 48).toNat (B.drop (q + 1)) = R) := Lib.hid (by
                  rw [← hQ, if_neg (by
                    rintro (h | h | h)
                    · exact absurd h.1 (by decide)
                    · exact hy48 (HC48.out.1 h.2.2)
                    · simp at h; omega), decide_eq_false (by omega), hcd]
                  simp)
                have wS : IntKind.u64.wrap (y - 48) = y - 48 := by rw [IntKind.wrap_u64]; omega
                clear hdr hc hy hQ HEND hcd hdg
                go_wp2_with fail
                go_round
                case rel => exact ⟨q + 1, y - 48, by omega, by omega, by go_num, rfl, by omega, by omega, fun h => by omega, HQ2⟩
                case measure => simp [intOf]; omega
            · rw [decide_eq_false hqk] at hQ
              have hgt : (k0 : Int) < (q : Int) := by omega
              have hqn : ((q : Int) == (k0 : Int)) = false := by rw [beq_eq_false_iff_ne]; omega
              have hqm : ¬ (q : Int) = (k0 : Int) := by omega
              by_cases hUz : U = 0
              · subst hUz
                have HR : Hid (R = .err 5) := Lib.hid (by rw [← hQ, if_pos (.inl ⟨rfl, rfl⟩)])
                clear hdr hc hy hQ HEND hcd hdg hU0 hqk
                go_wp2_with fail
                refine (bad_any 5 w1).mono ?_
                rintro e wb ⟨rfl, hbb⟩
                unfold badV
                have HZb := Lib.hid (HZ.out.later hbb)
                have HBb := Lib.hid (HB.out.trans (hbb.mono HB.out.size))
                obtain ⟨z0, z1, z2, z3, z4, z5⟩ := HZb.out.cells
                obtain ⟨f0, f1, f2, f3, f4, f5⟩ := HZb.out.cells'
                clear hbb
                go_wp2
                have hs := HZb.out.set (.int .i64 0) (.string ⟨#[]⟩) (.int .i64 0) (.slice none 0 0) (.int .i64 0) (.int .i64 5)
                have hb := set6_below HBb.out (b := w.heap.size) (by omega) (.int .i64 0) (.string ⟨#[]⟩) (.int .i64 0) (.slice none 0 0) (.int .i64 0) (.int .i64 5)
                show bodyPost _ _ _ .ret _ (set6 wb (w.heap.size) (.int .i64 0) (.string ⟨#[]⟩) (.int .i64 0) (.slice none 0 0) (.int .i64 0) (.int .i64 5))
                generalize set6 wb (w.heap.size) (.int .i64 0) (.string ⟨#[]⟩) (.int .i64 0) (.slice none 0 0) (.int .i64 0) (.int .i64 5) = wend at hs hb
                exact bodyPost_ret (results_cell rfl rfl (loadRd hs)) rfl ⟨by rw [HR.out]; exact ⟨by decide, rfl⟩, hb⟩
              · have hUb : (U == 0) = false := beq_eq_false_iff_ne.2 hUz
                by_cases hov : Q < U
                · have HR : Hid (R = .err 5) := Lib.hid (by rw [← hQ, if_pos (.inr (.inr (by omega)))])
                  clear hdr hc hy hQ HEND hcd hdg hU0 hqk
                  go_wp2_with fail
                  refine (bad_any 5 w1).mono ?_
                  rintro e wb ⟨rfl, hbb⟩
                  unfold badV
                  have HZb := Lib.hid (HZ.out.later hbb)
                  have HBb := Lib.hid (HB.out.trans (hbb.mono HB.out.size))
                  obtain ⟨z0, z1, z2, z3, z4, z5⟩ := HZb.out.cells
                  obtain ⟨f0, f1, f2, f3, f4, f5⟩ := HZb.out.cells'
                  clear hbb
                  go_wp2
                  have hs := HZb.out.set (.int .i64 0) (.string ⟨#[]⟩) (.int .i64 0) (.slice none 0 0) (.int .i64 0) (.int .i64 5)
                  have hb := set6_below HBb.out (b := w.heap.size) (by omega) (.int .i64 0) (.string ⟨#[]⟩) (.int .i64 0) (.slice none 0 0) (.int .i64 0) (.int .i64 5)
                  show bodyPost _ _ _ .ret _ (set6 wb (w.heap.size) (.int .i64 0) (.string ⟨#[]⟩) (.int .i64 0) (.slice none 0 0) (.int .i64 0) (.int .i64 5))
                  generalize set6 wb (w.heap.size) (.int .i64 0) (.string ⟨#[]⟩) (.int .i64 0) (.slice none 0 0) (.int .i64 0) (.int .i64 5) = wend at hs hb
                  exact bodyPost_ret (results_cell rfl rfl (loadRd hs)) rfl ⟨by rw [HR.out]; exact ⟨by decide, rfl⟩, hb⟩
                · have hovn : decide (Q < U) = false := by rw [decide_eq_false_iff_not]; exact hov
                  have HQ2 : Hid (Rp.numL true M (decide (q + 1 = k0)) (10 * U + (y - 48)).toNat (B.drop (q + 1)) = R) := Lib.hid (by
                    rw [← hQ, if_neg (by
                      rintro (h | h | h)
                      · omega
                      · exact absurd h.2.1 (by decide)
                      · omega), decide_eq_false (by omega), hcd, show (10 * U + (y - 48)).toNat = 10 * U.toNat + (y - 48).toNat by omega])
                  have wT : IntKind.u64.wrap (10 * U) = 10 * U := by rw [IntKind.wrap_u64]; omega
                  have wS : IntKind.u64.wrap (10 * U + (y - 48)) = 10 * U + (y - 48) := by rw [IntKind.wrap_u64]; omega
                  have hle : 10 * U + (y - 48) ≤ (M : Int) := by omega
                  clear hdr hc hy hQ HEND hcd hdg hU0 hqk
                  go_wp2_with fail
                  go_round
                  case rel => exact ⟨q + 1, 10 * U + (y - 48), by omega, by omega, by go_num, rfl, by omega, by omega, fun h => by omega, HQ2⟩
                  case measure => simp [intOf]; omega
      · obtain rfl : q = B.length := by omega
        have h1I : ¬ (B.length : Int) < (B.length : Int) := by omega
        have hQ := HQ.out
        rw [drop_end (Nat.le_refl _), Rp.numL] at hQ
        have HR : Hid (R = .err 6) := Lib.hid hQ.symm
        clear hQ HQ HEND hU0
        go_wp2_with fail
        refine (bad_any 6 w1).mono ?_
        rintro e wb ⟨rfl, hbb⟩
        unfold badV
        have HZb := Lib.hid (HZ.out.later hbb)
        have HBb := Lib.hid (HB.out.trans (hbb.mono HB.out.size))
        obtain ⟨z0, z1, z2, z3, z4, z5⟩ := HZb.out.cells
        obtain ⟨f0, f1, f2, f3, f4, f5⟩ := HZb.out.cells'
        clear hbb
        go_wp2
        have hs := HZb.out.set (.int .i64 0) (.string ⟨#[]⟩) (.int .i64 0) (.slice none 0 0) (.int .i64 0) (.int .i64 6)
        have hb := set6_below HBb.out (b := w.heap.size) (by omega) (.int .i64 0) (.string ⟨#[]⟩) (.int .i64 0) (.slice none 0 0) (.int .i64 0) (.int .i64 6)
        show bodyPost _ _ _ .ret _ (set6 wb (w.heap.size) (.int .i64 0) (.string ⟨#[]⟩) (.int .i64 0) (.slice none 0 0) (.int .i64 0) (.int .i64 6))
        generalize set6 wb (w.heap.size) (.int .i64 0) (.string ⟨#[]⟩) (.int .i64 0) (.slice none 0 0) (.int .i64 0) (.int .i64 6) = wend at hs hb
        exact bodyPost_ret (results_cell rfl rfl (loadRd hs)) rfl ⟨by rw [HR.out]; exact ⟨by decide, rfl⟩, hb⟩
set_option maxRecDepth 100000 in
set_option maxHeartbeats 8000000 in
theorem number_plain (B : List UInt8) (at_ : Nat) (low : Bool) (m : Nat) (w : World) (hl : B.length ≤ 1000) (hi : at_ ≤ B.length) (hm9 : 9 ≤ m) (hm : m ≤ 9223372036854775807) (hh : ¬ (B.drop at_).head? = some 45) :
    Calls Tryd.prog 43 #[.string ⟨B.toArray⟩, .int .i64 (at_ : Int), .bool low, .int .u64 (m : Int)] w (NumbOut B.length w (Rp.refN low m (B.drop at_))) := by
  obtain ⟨w1, hw1⟩ : ∃ w1, w.alloc (.cells #[.int .i64 0, .string ⟨#[]⟩, .int .i64 0, .slice none 0 0, .int .i64 0, .int .i64 0] 36) = w1 := ⟨_, rfl⟩
  have hz : Rd6 w1 w.heap.size (.int .i64 0) (.string ⟨#[]⟩) (.int .i64 0) (.slice none 0 0) (.int .i64 0) (.int .i64 0) := by rw [← hw1]; exact Rd6.new w _ _ _ _ _ _
  have hb1 : Below w.heap.size w w1 := by rw [← hw1]; exact (Below.refl _ w).alloc (Nat.le_refl _) _
  have hsz : w.heap.size < w1.heap.size := by rw [← hw1]; simp
  have HW1 := Lib.hid hw1
  have HZ := Lib.hid hz
  have HB := Lib.hid hb1
  have hlI : (B.length : Int) ≤ 1000 := by omega
  have a0 : (0 : Int) ≤ (at_ : Int) := by omega
  have aL : (at_ : Int) ≤ (B.length : Int) := by omega
  have wa1 : IntKind.i64.wrap ((at_ : Int) + 1) = (at_ : Int) + 1 := IntWalk.i64_in _ (by omega)
  clear hw1 hz hb1
  obtain ⟨k0, hk0⟩ : ∃ k0, at_ = k0 := ⟨_, rfl⟩
  obtain ⟨M, hM⟩ : ∃ M, m = M := ⟨_, rfl⟩
  have HS := Lib.hid (show Rp.numL false M true 0 (B.drop k0) = Rp.refN low m (B.drop at_) by unfold Rp.refN; rw [if_neg hh, hk0, hM])
  subst hk0
  subst hM
  generalize Rp.refN low m (B.drop at_) = R at HS ⊢
  have hkL := hi
  by_cases h1 : at_ < B.length
  · have h1I : (at_ : Int) < (B.length : Int) := by omega
    have hix := idx_at B at_ h1
    have hdr := drop_at h1
    obtain ⟨c0, hc⟩ : ∃ c0, B.getD at_ 0 = c0 := ⟨_, rfl⟩
    rw [hc] at hix hdr
    have hc45 : ¬ c0 = 45 := fun e => hh (by rw [hdr, e]; rfl)
    obtain ⟨y', hy'⟩ : ∃ y' : Int, (c0.toNat : Int) = y' := ⟨_, rfl⟩
    rw [hy'] at hix
    have hy45 : (y' == 45) = false := by rw [beq_eq_false_iff_ne]; intro h; exact hc45 (UInt8.toNat_inj.1 (by have : (45 : UInt8).toNat = 45 := rfl; omega))
    have hy45n : ¬ y' = 45 := beq_eq_false_iff_ne.1 hy45
    clear hdr hc hc45 hy' hh
    go_enter Tryd.func43, Tryd.ntmps43
    go_upto_region 1 with (fail)
    rw [show w.alloc (.cells #[.int .i64 0, .string ⟨#[]⟩, .int .i64 0, .slice none 0 0, .int .i64 0, .int .i64 0] 36) = w1 from HW1.out]
    clear HW1
    go_upto_region 10 with (fail)
    clear hix h1 h1I hy45 hy45n
    go_loop [9, 11, 13] (fun i u _ => ∃ (q : Nat) (U : Int), at_ ≤ q ∧ q ≤ B.length ∧ i = .int .i64 (q : Int) ∧ u = .int .u64 U ∧ 0 ≤ U ∧ U ≤ (m : Int) ∧ (q = at_ → U = 0) ∧ Hid (Rp.numL false m (decide (q = at_)) U.toNat (B.drop q) = R)) (fun i _ _ => (B.length : Int).toNat + 1 - (intOf i).toNat)
    case atStart => exact ⟨at_, 0, Nat.le_refl _, hkL, rfl, rfl, by decide, by omega, fun _ => rfl, Lib.hid (by rw [decide_eq_true rfl]; exact HS.out)⟩
    case round =>
      obtain ⟨q, U, hq0, hq1, rfl, rfl, u0, uM, hU0, HQ⟩ := hrel
      have HEND := Lib.hid (fun n W => end_any B q 0 [] n W hl hq1)
      have q0 : (0 : Int) ≤ (q : Int) := by omega
      have qk : (at_ : Int) ≤ (q : Int) := by omega
      have qL : (q : Int) ≤ (B.length : Int) := by omega
      have wq1 : IntKind.i64.wrap ((q : Int) + 1) = (q : Int) + 1 := IntWalk.i64_in _ (by omega)
      have hX : IntKind.i64.wrap U = U := IntWalk.i64_in _ (by omega)
      by_cases h1 : q < B.length
      · have h1I : (q : Int) < (B.length : Int) := by omega
        have hne : ((q : Int) == (B.length : Int)) = false := by rw [beq_eq_false_iff_ne]; omega
        have hnm : ¬ (q : Int) = (B.length : Int) := by omega
        have hix := idx_at B q h1
        have hdr := drop_at h1
        obtain ⟨c, hc⟩ : ∃ c, B.getD q 0 = c := ⟨_, rfl⟩
        rw [hc] at hdr hix
        obtain ⟨y, hy⟩ : ∃ y : Int, (c.toNat : Int) = y := ⟨_, rfl⟩
        rw [hy] at hix
        have hcb := UInt8.toNat_lt c
        have y0 : 0 ≤ y := by omega
        have y9 : y ≤ 255 := by omega
        have hQ := HQ.out
        rw [hdr] at hQ
        clear HQ hcb
        by_cases h48 : y < 48
        · have h48n : ¬ (48 : Int) ≤ y := by omega
          have hnd : ¬ (48 ≤ c.toNat ∧ c.toNat ≤ 57) := by omega
          rw [numL_other hnd] at hQ
          by_cases hqk : q = at_
          · have HR : Hid (R = .err 5) := Lib.hid (by rw [← hQ, if_pos (by simp [hqk])])
            subst hqk
            clear hdr hc hy hQ hnd HEND hU0
            go_wp2_with fail
            refine (bad_any 5 w1).mono ?_
            rintro e wb ⟨rfl, hbb⟩
            unfold badV
            have HZb := Lib.hid (HZ.out.later hbb)
            have HBb := Lib.hid (HB.out.trans (hbb.mono HB.out.size))
            obtain ⟨z0, z1, z2, z3, z4, z5⟩ := HZb.out.cells
            obtain ⟨f0, f1, f2, f3, f4, f5⟩ := HZb.out.cells'
            clear hbb
            go_wp2
            have hs := HZb.out.set (.int .i64 0) (.string ⟨#[]⟩) (.int .i64 0) (.slice none 0 0) (.int .i64 0) (.int .i64 5)
            have hb := set6_below HBb.out (b := w.heap.size) (by omega) (.int .i64 0) (.string ⟨#[]⟩) (.int .i64 0) (.slice none 0 0) (.int .i64 0) (.int .i64 5)
            show bodyPost _ _ _ .ret _ (set6 wb (w.heap.size) (.int .i64 0) (.string ⟨#[]⟩) (.int .i64 0) (.slice none 0 0) (.int .i64 0) (.int .i64 5))
            generalize set6 wb (w.heap.size) (.int .i64 0) (.string ⟨#[]⟩) (.int .i64 0) (.slice none 0 0) (.int .i64 0) (.int .i64 5) = wend at hs hb
            exact bodyPost_ret (results_cell rfl rfl (loadRd hs)) rfl ⟨by rw [HR.out]; exact ⟨by decide, rfl⟩, hb⟩
          · have hqn : ((q : Int) == (at_ : Int)) = false := by rw [beq_eq_false_iff_ne]; omega
            have hqm : ¬ (q : Int) = (at_ : Int) := by omega
            have HR : Hid (Rp.endP U (B.drop q) = R) := Lib.hid (by
              rw [← hQ, if_neg (by simp [hqk]), hdr]
              congr 1
              rw [if_neg (by decide), Int.toNat_of_nonneg u0])
            clear hdr hc hy hQ hnd hU0 hqk
            have has := endP_as () U (B.drop q)
            go_wp2_with fail
            refine (HEND.out U w1).mono ?_
            rintro e w2 ⟨ho, hb2⟩
            have HZ2 := Lib.hid (HZ.out.later hb2)
            have HB2 := Lib.hid (HB.out.trans (hb2.mono HB.out.size))
            obtain ⟨z0, z1, z2, z3, z4, z5⟩ := HZ2.out.cells
            obtain ⟨f0, f1, f2, f3, f4, f5⟩ := HZ2.out.cells'
            clear hb2
            generalize Rp.endP () (B.drop q) = o at ho has
            cases o with
            | ok u t =>
              simp only at ho has
              have HR2 : Hid (R = .ok (U) t) := Lib.hid (by rw [← HR.out, has])
              subst ho
              clear has HR HEND
              go_wp2
              have hs := HZ2.out.set (.int .i64 0) (.string ⟨#[]⟩) (.int .i64 (U)) (.slice none 0 0) (.int .i64 ((B.length : Int) - (t.length : Int))) (.int .i64 0)
              have hb := set6_below HB2.out (b := w.heap.size) (by omega) (.int .i64 0) (.string ⟨#[]⟩) (.int .i64 (U)) (.slice none 0 0) (.int .i64 ((B.length : Int) - (t.length : Int))) (.int .i64 0)
              show bodyPost _ _ _ .ret _ (set6 w2 (w.heap.size) (.int .i64 0) (.string ⟨#[]⟩) (.int .i64 (U)) (.slice none 0 0) (.int .i64 ((B.length : Int) - (t.length : Int))) (.int .i64 0))
              generalize set6 w2 (w.heap.size) (.int .i64 0) (.string ⟨#[]⟩) (.int .i64 (U)) (.slice none 0 0) (.int .i64 ((B.length : Int) - (t.length : Int))) (.int .i64 0) = wend at hs hb
              exact bodyPost_ret (results_cell rfl rfl (loadRd hs)) rfl ⟨by rw [HR2.out], hb⟩
            | err c =>
              simp only at ho has
              obtain ⟨hc0, ho⟩ := ho
              have HR2 : Hid (R = .err c) := Lib.hid (by rw [← HR.out, has])
              subst ho
              unfold badV
              clear has HR HEND
              go_wp2
              have hs := HZ2.out.set (.int .i64 0) (.string ⟨#[]⟩) (.int .i64 0) (.slice none 0 0) (.int .i64 0) (.int .i64 c)
              have hb := set6_below HB2.out (b := w.heap.size) (by omega) (.int .i64 0) (.string ⟨#[]⟩) (.int .i64 0) (.slice none 0 0) (.int .i64 0) (.int .i64 c)
              show bodyPost _ _ _ .ret _ (set6 w2 (w.heap.size) (.int .i64 0) (.string ⟨#[]⟩) (.int .i64 0) (.slice none 0 0) (.int .i64 0) (.int .i64 c))
              generalize set6 w2 (w.heap.size) (.int .i64 0) (.string ⟨#[]⟩) (.int .i64 0) (.slice none 0 0) (.int .i64 0) (.int .i64 c) = wend at hs hb
              exact bodyPost_ret (results_cell rfl rfl (loadRd hs)) rfl ⟨by rw [HR2.out]; exact ⟨hc0, rfl⟩, hb⟩
        · have h48p : (48 : Int) ≤ y := by omega
          by_cases h57 : 57 < y
          · have h57n : ¬ y ≤ (57 : Int) := by omega
            have hnd : ¬ (48 ≤ c.toNat ∧ c.toNat ≤ 57) := by omega
            rw [numL_other hnd] at hQ
            by_cases hqk : q = at_
            · have HR : Hid (R = .err 5) := Lib.hid (by rw [← hQ, if_pos (by simp [hqk])])
              subst hqk
              clear hdr hc hy hQ hnd HEND hU0
              go_wp2_with fail
              refine (bad_any 5 w1).mono ?_
              rintro e wb ⟨rfl, hbb⟩
              unfold badV
              have HZb := Lib.hid (HZ.out.later hbb)
              have HBb := Lib.hid (HB.out.trans (hbb.mono HB.out.size))
              obtain ⟨z0, z1, z2, z3, z4, z5⟩ := HZb.out.cells
              obtain ⟨f0, f1, f2, f3, f4, f5⟩ := HZb.out.cells'
              clear hbb
              go_wp2
              have hs := HZb.out.set (.int .i64 0) (.string ⟨#[]⟩) (.int .i64 0) (.slice none 0 0) (.int .i64 0) (.int .i64 5)
              have hb := set6_below HBb.out (b := w.heap.size) (by omega) (.int .i64 0) (.string ⟨#[]⟩) (.int .i64 0) (.slice none 0 0) (.int .i64 0) (.int .i64 5)
              show bodyPost _ _ _ .ret _ (set6 wb (w.heap.size) (.int .i64 0) (.string ⟨#[]⟩) (.int .i64 0) (.slice none 0 0) (.int .i64 0) (.int .i64 5))
              generalize set6 wb (w.heap.size) (.int .i64 0) (.string ⟨#[]⟩) (.int .i64 0) (.slice none 0 0) (.int .i64 0) (.int .i64 5) = wend at hs hb
              exact bodyPost_ret (results_cell rfl rfl (loadRd hs)) rfl ⟨by rw [HR.out]; exact ⟨by decide, rfl⟩, hb⟩
            · have hqn : ((q : Int) == (at_ : Int)) = false := by rw [beq_eq_false_iff_ne]; omega
              have hqm : ¬ (q : Int) = (at_ : Int) := by omega
              have HR : Hid (Rp.endP U (B.drop q) = R) := Lib.hid (by
                rw [← hQ, if_neg (by simp [hqk]), hdr]
                congr 1
                rw [if_neg (by decide), Int.toNat_of_nonneg u0])
              clear hdr hc hy hQ hnd hU0 hqk
              have has := endP_as () U (B.drop q)
              go_wp2_with fail
              refine (HEND.out U w1).mono ?_
              rintro e w2 ⟨ho, hb2⟩
              have HZ2 := Lib.hid (HZ.out.later hb2)
              have HB2 := Lib.hid (HB.out.trans (hb2.mono HB.out.size))
              obtain ⟨z0, z1, z2, z3, z4, z5⟩ := HZ2.out.cells
              obtain ⟨f0, f1, f2, f3, f4, f5⟩ := HZ2.out.cells'
              clear hb2
              generalize Rp.endP () (B.drop q) = o at ho has
              cases o with
              | ok u t =>
                simp only at ho has
                have HR2 : Hid (R = .ok (U) t) := Lib.hid (by rw [← HR.out, has])
                subst ho
                clear has HR HEND
                go_wp2
                have hs := HZ2.out.set (.int .i64 0) (.string ⟨#[]⟩) (.int .i64 (U)) (.slice none 0 0) (.int .i64 ((B.length : Int) - (t.length : Int))) (.int .i64 0)
                have hb := set6_below HB2.out (b := w.heap.size) (by omega) (.int .i64 0) (.string ⟨#[]⟩) (.int .i64 (U)) (.slice none 0 0) (.int .i64 ((B.length : Int) - (t.length : Int))) (.int .i64 0)
                show bodyPost _ _ _ .ret _ (set6 w2 (w.heap.size) (.int .i64 0) (.string ⟨#[]⟩) (.int .i64 (U)) (.slice none 0 0) (.int .i64 ((B.length : Int) - (t.length : Int))) (.int .i64 0))
                generalize set6 w2 (w.heap.size) (.int .i64 0) (.string ⟨#[]⟩) (.int .i64 (U)) (.slice none 0 0) (.int .i64 ((B.length : Int) - (t.length : Int))) (.int .i64 0) = wend at hs hb
                exact bodyPost_ret (results_cell rfl rfl (loadRd hs)) rfl ⟨by rw [HR2.out], hb⟩
              | err c =>
                simp only at ho has
                obtain ⟨hc0, ho⟩ := ho
                have HR2 : Hid (R = .err c) := Lib.hid (by rw [← HR.out, has])
                subst ho
                unfold badV
                clear has HR HEND
                go_wp2
                have hs := HZ2.out.set (.int .i64 0) (.string ⟨#[]⟩) (.int .i64 0) (.slice none 0 0) (.int .i64 0) (.int .i64 c)
                have hb := set6_below HB2.out (b := w.heap.size) (by omega) (.int .i64 0) (.string ⟨#[]⟩) (.int .i64 0) (.slice none 0 0) (.int .i64 0) (.int .i64 c)
                show bodyPost _ _ _ .ret _ (set6 w2 (w.heap.size) (.int .i64 0) (.string ⟨#[]⟩) (.int .i64 0) (.slice none 0 0) (.int .i64 0) (.int .i64 c))
                generalize set6 w2 (w.heap.size) (.int .i64 0) (.string ⟨#[]⟩) (.int .i64 0) (.slice none 0 0) (.int .i64 0) (.int .i64 c) = wend at hs hb
                exact bodyPost_ret (results_cell rfl rfl (loadRd hs)) rfl ⟨by rw [HR2.out]; exact ⟨hc0, rfl⟩, hb⟩
          · have h57p : y ≤ (57 : Int) := by omega
            have hdg : 48 ≤ c.toNat ∧ c.toNat ≤ 57 := by omega
            rw [numL_digit hdg] at hQ
            have hcd : c.toNat - 48 = (y - 48).toNat := by omega
            have wd : IntKind.u8.wrap (y - 48) = y - 48 := by rw [IntKind.wrap_u8]; omega
            have wm : IntKind.u64.wrap ((m : Int) - (y - 48)) = (m : Int) - (y - 48) := by rw [IntKind.wrap_u64]; omega
            obtain ⟨Q, hQq⟩ : ∃ Q, ((m : Int) - (y - 48)) / 10 = Q := ⟨_, rfl⟩
            have hQt : ((m : Int) - (y - 48)).tdiv 10 = Q := by rw [Int.tdiv_eq_ediv_of_nonneg (by omega)]; exact hQq
            have HC48 := Lib.hid (show c.toNat = 48 ↔ y = 48 by omega)
            by_cases hqk : q = at_
            · obtain rfl := hU0 hqk
              rw [decide_eq_true hqk] at hQ
              subst hqk
              have hQ0 : (0 : Int) ≤ Q := by omega
              have hQ0n : ¬ Q < 0 := by omega
              have HQ2 : Hid (Rp.numL false m (decide (q + 1 = q)) (y - 48).toNat (B.drop (q + 1)) = R) := Lib.hid (by
                rw [← hQ, if_neg (by
                  rintro (h | h | h)
                  · exact absurd h.1 (by decide)
                  · exact absurd h.1 (by decide)
                  · simp at h; omega), decide_eq_false (by omega), hcd]
                simp)
              have wS : IntKind.u64.wrap (y - 48) = y - 48 := by rw [IntKind.wrap_u64]; omega
              clear hdr hc hy hQ HEND hcd hdg
              go_wp2_with fail
              go_round
              case rel => exact ⟨q + 1, y - 48, by omega, by omega, by go_num, rfl, by omega, by omega, fun h => by omega, HQ2⟩
              case measure => simp [intOf]; omega
            · rw [decide_eq_false hqk] at hQ
              have hgt : (at_ : Int) < (q : Int) := by omega
              have hqn : ((q : Int) == (at_ : Int)) = false := by rw [beq_eq_false_iff_ne]; omega
              have hqm : ¬ (q : Int) = (at_ : Int) := by omega
              by_cases hUz : U = 0
              · subst hUz
                have HR : Hid (R = .err 5) := Lib.hid (by rw [← hQ, if_pos (.inl ⟨rfl, rfl⟩)])
                clear hdr hc hy hQ HEND hcd hdg hU0 hqk
                go_wp2_with fail
                refine (bad_any 5 w1).mono ?_
                rintro e wb ⟨rfl, hbb⟩
                unfold badV
                have HZb := Lib.hid (HZ.out.later hbb)
                have HBb := Lib.hid (HB.out.trans (hbb.mono HB.out.size))
                obtain ⟨z0, z1, z2, z3, z4, z5⟩ := HZb.out.cells
                obtain ⟨f0, f1, f2, f3, f4, f5⟩ := HZb.out.cells'
                clear hbb
                go_wp2
                have hs := HZb.out.set (.int .i64 0) (.string ⟨#[]⟩) (.int .i64 0) (.slice none 0 0) (.int .i64 0) (.int .i64 5)
                have hb := set6_below HBb.out (b := w.heap.size) (by omega) (.int .i64 0) (.string ⟨#[]⟩) (.int .i64 0) (.slice none 0 0) (.int .i64 0) (.int .i64 5)
                show bodyPost _ _ _ .ret _ (set6 wb (w.heap.size) (.int .i64 0) (.string ⟨#[]⟩) (.int .i64 0) (.slice none 0 0) (.int .i64 0) (.int .i64 5))
                generalize set6 wb (w.heap.size) (.int .i64 0) (.string ⟨#[]⟩) (.int .i64 0) (.slice none 0 0) (.int .i64 0) (.int .i64 5) = wend at hs hb
                exact bodyPost_ret (results_cell rfl rfl (loadRd hs)) rfl ⟨by rw [HR.out]; exact ⟨by decide, rfl⟩, hb⟩
              · have hUb : (U == 0) = false := beq_eq_false_iff_ne.2 hUz
                by_cases hov : Q < U
                · have HR : Hid (R = .err 5) := Lib.hid (by rw [← hQ, if_pos (.inr (.inr (by omega)))])
                  clear hdr hc hy hQ HEND hcd hdg hU0 hqk
                  go_wp2_with fail
                  refine (bad_any 5 w1).mono ?_
                  rintro e wb ⟨rfl, hbb⟩
                  unfold badV
                  have HZb := Lib.hid (HZ.out.later hbb)
                  have HBb := Lib.hid (HB.out.trans (hbb.mono HB.out.size))
                  obtain ⟨z0, z1, z2, z3, z4, z5⟩ := HZb.out.cells
                  obtain ⟨f0, f1, f2, f3, f4, f5⟩ := HZb.out.cells'
                  clear hbb
                  go_wp2
                  have hs := HZb.out.set (.int .i64 0) (.string ⟨#[]⟩) (.int .i64 0) (.slice none 0 0) (.int .i64 0) (.int .i64 5)
                  have hb := set6_below HBb.out (b := w.heap.size) (by omega) (.int .i64 0) (.string ⟨#[]⟩) (.int .i64 0) (.slice none 0 0) (.int .i64 0) (.int .i64 5)
                  show bodyPost _ _ _ .ret _ (set6 wb (w.heap.size) (.int .i64 0) (.string ⟨#[]⟩) (.int .i64 0) (.slice none 0 0) (.int .i64 0) (.int .i64 5))
                  generalize set6 wb (w.heap.size) (.int .i64 0) (.string ⟨#[]⟩) (.int .i64 0) (.slice none 0 0) (.int .i64 0) (.int .i64 5) = wend at hs hb
                  exact bodyPost_ret (results_cell rfl rfl (loadRd hs)) rfl ⟨by rw [HR.out]; exact ⟨by decide, rfl⟩, hb⟩
                · have hovn : decide (Q < U) = false := by rw [decide_eq_false_iff_not]; exact hov
                  have HQ2 : Hid (Rp.numL false m (decide (q + 1 = at_)) (10 * U + (y - 48)).toNat (B.drop (q + 1)) = R) := Lib.hid (by
                    rw [← hQ, if_neg (by
                      rintro (h | h | h)
                      · omega
                      · exact absurd h.2.1 (by decide)
                      · omega), decide_eq_false (by omega), hcd, show (10 * U + (y - 48)).toNat = 10 * U.toNat + (y - 48).toNat by omega])
                  have wT : IntKind.u64.wrap (10 * U) = 10 * U := by rw [IntKind.wrap_u64]; omega
                  have wS : IntKind.u64.wrap (10 * U + (y - 48)) = 10 * U + (y - 48) := by rw [IntKind.wrap_u64]; omega
                  have hle : 10 * U + (y - 48) ≤ (m : Int) := by omega
                  clear hdr hc hy hQ HEND hcd hdg hU0 hqk
                  go_wp2_with fail
                  go_round
                  case rel => exact ⟨q + 1, 10 * U + (y - 48), by omega, by omega, by go_num, rfl, by omega, by omega, fun h => by omega, HQ2⟩
                  case measure => simp [intOf]; omega
      · obtain rfl : q = B.length := by omega
        have h1I : ¬ (B.length : Int) < (B.length : Int) := by omega
        have hQ := HQ.out
        rw [drop_end (Nat.le_refl _), Rp.numL] at hQ
        have HR : Hid (R = .err 6) := Lib.hid hQ.symm
        clear hQ HQ HEND hU0
        go_wp2_with fail
        refine (bad_any 6 w1).mono ?_
        rintro e wb ⟨rfl, hbb⟩
        unfold badV
        have HZb := Lib.hid (HZ.out.later hbb)
        have HBb := Lib.hid (HB.out.trans (hbb.mono HB.out.size))
        obtain ⟨z0, z1, z2, z3, z4, z5⟩ := HZb.out.cells
        obtain ⟨f0, f1, f2, f3, f4, f5⟩ := HZb.out.cells'
        clear hbb
        go_wp2
        have hs := HZb.out.set (.int .i64 0) (.string ⟨#[]⟩) (.int .i64 0) (.slice none 0 0) (.int .i64 0) (.int .i64 6)
        have hb := set6_below HBb.out (b := w.heap.size) (by omega) (.int .i64 0) (.string ⟨#[]⟩) (.int .i64 0) (.slice none 0 0) (.int .i64 0) (.int .i64 6)
        show bodyPost _ _ _ .ret _ (set6 wb (w.heap.size) (.int .i64 0) (.string ⟨#[]⟩) (.int .i64 0) (.slice none 0 0) (.int .i64 0) (.int .i64 6))
        generalize set6 wb (w.heap.size) (.int .i64 0) (.string ⟨#[]⟩) (.int .i64 0) (.slice none 0 0) (.int .i64 0) (.int .i64 6) = wend at hs hb
        exact bodyPost_ret (results_cell rfl rfl (loadRd hs)) rfl ⟨by rw [HR.out]; exact ⟨by decide, rfl⟩, hb⟩
  · have h1I : ¬ (at_ : Int) < (B.length : Int) := by omega
    clear hh
    go_enter Tryd.func43, Tryd.ntmps43
    go_upto_region 1 with (fail)
    rw [show w.alloc (.cells #[.int .i64 0, .string ⟨#[]⟩, .int .i64 0, .slice none 0 0, .int .i64 0, .int .i64 0] 36) = w1 from HW1.out]
    clear HW1
    go_upto_region 10 with (fail)
    clear h1 h1I
    go_loop [9, 11, 13] (fun i u _ => ∃ (q : Nat) (U : Int), at_ ≤ q ∧ q ≤ B.length ∧ i = .int .i64 (q : Int) ∧ u = .int .u64 U ∧ 0 ≤ U ∧ U ≤ (m : Int) ∧ (q = at_ → U = 0) ∧ Hid (Rp.numL false m (decide (q = at_)) U.toNat (B.drop q) = R)) (fun i _ _ => (B.length : Int).toNat + 1 - (intOf i).toNat)
    case atStart => exact ⟨at_, 0, Nat.le_refl _, hkL, rfl, rfl, by decide, by omega, fun _ => rfl, Lib.hid (by rw [decide_eq_true rfl]; exact HS.out)⟩
    case round =>
      obtain ⟨q, U, hq0, hq1, rfl, rfl, u0, uM, hU0, HQ⟩ := hrel
      have HEND := Lib.hid (fun n W => end_any B q 0 [] n W hl hq1)
      have q0 : (0 : Int) ≤ (q : Int) := by omega
      have qk : (at_ : Int) ≤ (q : Int) := by omega
      have qL : (q : Int) ≤ (B.length : Int) := by omega
      have wq1 : IntKind.i64.wrap ((q : Int) + 1) = (q : Int) + 1 := IntWalk.i64_in _ (by omega)
      have hX : IntKind.i64.wrap U = U := IntWalk.i64_in _ (by omega)
      by_cases h1 : q < B.length
      · have h1I : (q : Int) < (B.length : Int) := by omega
        have hne : ((q : Int) == (B.length : Int)) = false := by rw [beq_eq_false_iff_ne]; omega
        have hnm : ¬ (q : Int) = (B.length : Int) := by omega
        have hix := idx_at B q h1
        have hdr := drop_at h1
        obtain ⟨c, hc⟩ : ∃ c, B.getD q 0 = c := ⟨_, rfl⟩
        rw [hc] at hdr hix
        obtain ⟨y, hy⟩ : ∃ y : Int, (c.toNat : Int) = y := ⟨_, rfl⟩
        rw [hy] at hix
        have hcb := UInt8.toNat_lt c
        have y0 : 0 ≤ y := by omega
        have y9 : y ≤ 255 := by omega
        have hQ := HQ.out
        rw [hdr] at hQ
        clear HQ hcb
        by_cases h48 : y < 48
        · have h48n : ¬ (48 : Int) ≤ y := by omega
          have hnd : ¬ (48 ≤ c.toNat ∧ c.toNat ≤ 57) := by omega
          rw [numL_other hnd] at hQ
          by_cases hqk : q = at_
          · have HR : Hid (R = .err 5) := Lib.hid (by rw [← hQ, if_pos (by simp [hqk])])
            subst hqk
            clear hdr hc hy hQ hnd HEND hU0
            go_wp2_with fail
            refine (bad_any 5 w1).mono ?_
            rintro e wb ⟨rfl, hbb⟩
            unfold badV
            have HZb := Lib.hid (HZ.out.later hbb)
            have HBb := Lib.hid (HB.out.trans (hbb.mono HB.out.size))
            obtain ⟨z0, z1, z2, z3, z4, z5⟩ := HZb.out.cells
            obtain ⟨f0, f1, f2, f3, f4, f5⟩ := HZb.out.cells'
            clear hbb
            go_wp2
            have hs := HZb.out.set (.int .i64 0) (.string ⟨#[]⟩) (.int .i64 0) (.slice none 0 0) (.int .i64 0) (.int .i64 5)
            have hb := set6_below HBb.out (b := w.heap.size) (by omega) (.int .i64 0) (.string ⟨#[]⟩) (.int .i64 0) (.slice none 0 0) (.int .i64 0) (.int .i64 5)
            show bodyPost _ _ _ .ret _ (set6 wb (w.heap.size) (.int .i64 0) (.string ⟨#[]⟩) (.int .i64 0) (.slice none 0 0) (.int .i64 0) (.int .i64 5))
            generalize set6 wb (w.heap.size) (.int .i64 0) (.string ⟨#[]⟩) (.int .i64 0) (.slice none 0 0) (.int .i64 0) (.int .i64 5) = wend at hs hb
            exact bodyPost_ret (results_cell rfl rfl (loadRd hs)) rfl ⟨by rw [HR.out]; exact ⟨by decide, rfl⟩, hb⟩
          · have hqn : ((q : Int) == (at_ : Int)) = false := by rw [beq_eq_false_iff_ne]; omega
            have hqm : ¬ (q : Int) = (at_ : Int) := by omega
            have HR : Hid (Rp.endP U (B.drop q) = R) := Lib.hid (by
              rw [← hQ, if_neg (by simp [hqk]), hdr]
              congr 1
              rw [if_neg (by decide), Int.toNat_of_nonneg u0])
            clear hdr hc hy hQ hnd hU0 hqk
            have has := endP_as () U (B.drop q)
            go_wp2_with fail
            refine (HEND.out U w1).mono ?_
            rintro e w2 ⟨ho, hb2⟩
            have HZ2 := Lib.hid (HZ.out.later hb2)
            have HB2 := Lib.hid (HB.out.trans (hb2.mono HB.out.size))
            obtain ⟨z0, z1, z2, z3, z4, z5⟩ := HZ2.out.cells
            obtain ⟨f0, f1, f2, f3, f4, f5⟩ := HZ2.out.cells'
            clear hb2
            generalize Rp.endP () (B.drop q) = o at ho has
            cases o with
            | ok u t =>
              simp only at ho has
              have HR2 : Hid (R = .ok (U) t) := Lib.hid (by rw [← HR.out, has])
              subst ho
              clear has HR HEND
              go_wp2
              have hs := HZ2.out.set (.int .i64 0) (.string ⟨#[]⟩) (.int .i64 (U)) (.slice none 0 0) (.int .i64 ((B.length : Int) - (t.length : Int))) (.int .i64 0)
              have hb := set6_below HB2.out (b := w.heap.size) (by omega) (.int .i64 0) (.string ⟨#[]⟩) (.int .i64 (U)) (.slice none 0 0) (.int .i64 ((B.length : Int) - (t.length : Int))) (.int .i64 0)
              show bodyPost _ _ _ .ret _ (set6 w2 (w.heap.size) (.int .i64 0) (.string ⟨#[]⟩) (.int .i64 (U)) (.slice none 0 0) (.int .i64 ((B.length : Int) - (t.length : Int))) (.int .i64 0))
              generalize set6 w2 (w.heap.size) (.int .i64 0) (.string ⟨#[]⟩) (.int .i64 (U)) (.slice none 0 0) (.int .i64 ((B.length : Int) - (t.length : Int))) (.int .i64 0) = wend at hs hb
              exact bodyPost_ret (results_cell rfl rfl (loadRd hs)) rfl ⟨by rw [HR2.out], hb⟩
            | err c =>
              simp only at ho has
              obtain ⟨hc0, ho⟩ := ho
              have HR2 : Hid (R = .err c) := Lib.hid (by rw [← HR.out, has])
              subst ho
              unfold badV
              clear has HR HEND
              go_wp2
              have hs := HZ2.out.set (.int .i64 0) (.string ⟨#[]⟩) (.int .i64 0) (.slice none 0 0) (.int .i64 0) (.int .i64 c)
              have hb := set6_below HB2.out (b := w.heap.size) (by omega) (.int .i64 0) (.string ⟨#[]⟩) (.int .i64 0) (.slice none 0 0) (.int .i64 0) (.int .i64 c)
              show bodyPost _ _ _ .ret _ (set6 w2 (w.heap.size) (.int .i64 0) (.string ⟨#[]⟩) (.int .i64 0) (.slice none 0 0) (.int .i64 0) (.int .i64 c))
              generalize set6 w2 (w.heap.size) (.int .i64 0) (.string ⟨#[]⟩) (.int .i64 0) (.slice none 0 0) (.int .i64 0) (.int .i64 c) = wend at hs hb
              exact bodyPost_ret (results_cell rfl rfl (loadRd hs)) rfl ⟨by rw [HR2.out]; exact ⟨hc0, rfl⟩, hb⟩
        · have h48p : (48 : Int) ≤ y := by omega
          by_cases h57 : 57 < y
          · have h57n : ¬ y ≤ (57 : Int) := by omega
            have hnd : ¬ (48 ≤ c.toNat ∧ c.toNat ≤ 57) := by omega
            rw [numL_other hnd] at hQ
            by_cases hqk : q = at_
            · have HR : Hid (R = .err 5) := Lib.hid (by rw [← hQ, if_pos (by simp [hqk])])
              subst hqk
              clear hdr hc hy hQ hnd HEND hU0
              go_wp2_with fail
              refine (bad_any 5 w1).mono ?_
              rintro e wb ⟨rfl, hbb⟩
              unfold badV
              have HZb := Lib.hid (HZ.out.later hbb)
              have HBb := Lib.hid (HB.out.trans (hbb.mono HB.out.size))
              obtain ⟨z0, z1, z2, z3, z4, z5⟩ := HZb.out.cells
              obtain ⟨f0, f1, f2, f3, f4, f5⟩ := HZb.out.cells'
              clear hbb
              go_wp2
              have hs := HZb.out.set (.int .i64 0) (.string ⟨#[]⟩) (.int .i64 0) (.slice none 0 0) (.int .i64 0) (.int .i64 5)
              have hb := set6_below HBb.out (b := w.heap.size) (by omega) (.int .i64 0) (.string ⟨#[]⟩) (.int .i64 0) (.slice none 0 0) (.int .i64 0) (.int .i64 5)
              show bodyPost _ _ _ .ret _ (set6 wb (w.heap.size) (.int .i64 0) (.string ⟨#[]⟩) (.int .i64 0) (.slice none 0 0) (.int .i64 0) (.int .i64 5))
              generalize set6 wb (w.heap.size) (.int .i64 0) (.string ⟨#[]⟩) (.int .i64 0) (.slice none 0 0) (.int .i64 0) (.int .i64 5) = wend at hs hb
              exact bodyPost_ret (results_cell rfl rfl (loadRd hs)) rfl ⟨by rw [HR.out]; exact ⟨by decide, rfl⟩, hb⟩
            · have hqn : ((q : Int) == (at_ : Int)) = false := by rw [beq_eq_false_iff_ne]; omega
              have hqm : ¬ (q : Int) = (at_ : Int) := by omega
              have HR : Hid (Rp.endP U (B.drop q) = R) := Lib.hid (by
                rw [← hQ, if_neg (by simp [hqk]), hdr]
                congr 1
                rw [if_neg (by decide), Int.toNat_of_nonneg u0])
              clear hdr hc hy hQ hnd hU0 hqk
              have has := endP_as () U (B.drop q)
              go_wp2_with fail
              refine (HEND.out U w1).mono ?_
              rintro e w2 ⟨ho, hb2⟩
              have HZ2 := Lib.hid (HZ.out.later hb2)
              have HB2 := Lib.hid (HB.out.trans (hb2.mono HB.out.size))
              obtain ⟨z0, z1, z2, z3, z4, z5⟩ := HZ2.out.cells
              obtain ⟨f0, f1, f2, f3, f4, f5⟩ := HZ2.out.cells'
              clear hb2
              generalize Rp.endP () (B.drop q) = o at ho has
              cases o with
              | ok u t =>
                simp only at ho has
                have HR2 : Hid (R = .ok (U) t) := Lib.hid (by rw [← HR.out, has])
                subst ho
                clear has HR HEND
                go_wp2
                have hs := HZ2.out.set (.int .i64 0) (.string ⟨#[]⟩) (.int .i64 (U)) (.slice none 0 0) (.int .i64 ((B.length : Int) - (t.length : Int))) (.int .i64 0)
                have hb := set6_below HB2.out (b := w.heap.size) (by omega) (.int .i64 0) (.string ⟨#[]⟩) (.int .i64 (U)) (.slice none 0 0) (.int .i64 ((B.length : Int) - (t.length : Int))) (.int .i64 0)
                show bodyPost _ _ _ .ret _ (set6 w2 (w.heap.size) (.int .i64 0) (.string ⟨#[]⟩) (.int .i64 (U)) (.slice none 0 0) (.int .i64 ((B.length : Int) - (t.length : Int))) (.int .i64 0))
                generalize set6 w2 (w.heap.size) (.int .i64 0) (.string ⟨#[]⟩) (.int .i64 (U)) (.slice none 0 0) (.int .i64 ((B.length : Int) - (t.length : Int))) (.int .i64 0) = wend at hs hb
                exact bodyPost_ret (results_cell rfl rfl (loadRd hs)) rfl ⟨by rw [HR2.out], hb⟩
              | err c =>
                simp only at ho has
                obtain ⟨hc0, ho⟩ := ho
                have HR2 : Hid (R = .err c) := Lib.hid (by rw [← HR.out, has])
                subst ho
                unfold badV
                clear has HR HEND
                go_wp2
                have hs := HZ2.out.set (.int .i64 0) (.string ⟨#[]⟩) (.int .i64 0) (.slice none 0 0) (.int .i64 0) (.int .i64 c)
                have hb := set6_below HB2.out (b := w.heap.size) (by omega) (.int .i64 0) (.string ⟨#[]⟩) (.int .i64 0) (.slice none 0 0) (.int .i64 0) (.int .i64 c)
                show bodyPost _ _ _ .ret _ (set6 w2 (w.heap.size) (.int .i64 0) (.string ⟨#[]⟩) (.int .i64 0) (.slice none 0 0) (.int .i64 0) (.int .i64 c))
                generalize set6 w2 (w.heap.size) (.int .i64 0) (.string ⟨#[]⟩) (.int .i64 0) (.slice none 0 0) (.int .i64 0) (.int .i64 c) = wend at hs hb
                exact bodyPost_ret (results_cell rfl rfl (loadRd hs)) rfl ⟨by rw [HR2.out]; exact ⟨hc0, rfl⟩, hb⟩
          · have h57p : y ≤ (57 : Int) := by omega
            have hdg : 48 ≤ c.toNat ∧ c.toNat ≤ 57 := by omega
            rw [numL_digit hdg] at hQ
            have hcd : c.toNat - 48 = (y - 48).toNat := by omega
            have wd : IntKind.u8.wrap (y - 48) = y - 48 := by rw [IntKind.wrap_u8]; omega
            have wm : IntKind.u64.wrap ((m : Int) - (y - 48)) = (m : Int) - (y - 48) := by rw [IntKind.wrap_u64]; omega
            obtain ⟨Q, hQq⟩ : ∃ Q, ((m : Int) - (y - 48)) / 10 = Q := ⟨_, rfl⟩
            have hQt : ((m : Int) - (y - 48)).tdiv 10 = Q := by rw [Int.tdiv_eq_ediv_of_nonneg (by omega)]; exact hQq
            have HC48 := Lib.hid (show c.toNat = 48 ↔ y = 48 by omega)
            by_cases hqk : q = at_
            · obtain rfl := hU0 hqk
              rw [decide_eq_true hqk] at hQ
              subst hqk
              have hQ0 : (0 : Int) ≤ Q := by omega
              have hQ0n : ¬ Q < 0 := by omega
              have HQ2 : Hid (Rp.numL false m (decide (q + 1 = q)) (y - 48).toNat (B.drop (q + 1)) = R) := Lib.hid (by
                rw [← hQ, if_neg (by
                  rintro (h | h | h)
                  · exact absurd h.1 (by decide)
                  · exact absurd h.1 (by decide)
                  · simp at h; omega), decide_eq_false (by omega), hcd]
                simp)
              have wS : IntKind.u64.wrap (y - 48) = y - 48 := by rw [IntKind.wrap_u64]; omega
              clear hdr hc hy hQ HEND hcd hdg
              go_wp2_with fail
              go_round
              case rel => exact ⟨q + 1, y - 48, by omega, by omega, by go_num, rfl, by omega, by omega, fun h => by omega, HQ2⟩
              case measure => simp [intOf]; omega
            · rw [decide_eq_false hqk] at hQ
              have hgt : (at_ : Int) < (q : Int) := by omega
              have hqn : ((q : Int) == (at_ : Int)) = false := by rw [beq_eq_false_iff_ne]; omega
              have hqm : ¬ (q : Int) = (at_ : Int) := by omega
              by_cases hUz : U = 0
              · subst hUz
                have HR : Hid (R = .err 5) := Lib.hid (by rw [← hQ, if_pos (.inl ⟨rfl, rfl⟩)])
                clear hdr hc hy hQ HEND hcd hdg hU0 hqk
                go_wp2_with fail
                refine (bad_any 5 w1).mono ?_
                rintro e wb ⟨rfl, hbb⟩
                unfold badV
                have HZb := Lib.hid (HZ.out.later hbb)
                have HBb := Lib.hid (HB.out.trans (hbb.mono HB.out.size))
                obtain ⟨z0, z1, z2, z3, z4, z5⟩ := HZb.out.cells
                obtain ⟨f0, f1, f2, f3, f4, f5⟩ := HZb.out.cells'
                clear hbb
                go_wp2
                have hs := HZb.out.set (.int .i64 0) (.string ⟨#[]⟩) (.int .i64 0) (.slice none 0 0) (.int .i64 0) (.int .i64 5)
                have hb := set6_below HBb.out (b := w.heap.size) (by omega) (.int .i64 0) (.string ⟨#[]⟩) (.int .i64 0) (.slice none 0 0) (.int .i64 0) (.int .i64 5)
                show bodyPost _ _ _ .ret _ (set6 wb (w.heap.size) (.int .i64 0) (.string ⟨#[]⟩) (.int .i64 0) (.slice none 0 0) (.int .i64 0) (.int .i64 5))
                generalize set6 wb (w.heap.size) (.int .i64 0) (.string ⟨#[]⟩) (.int .i64 0) (.slice none 0 0) (.int .i64 0) (.int .i64 5) = wend at hs hb
                exact bodyPost_ret (results_cell rfl rfl (loadRd hs)) rfl ⟨by rw [HR.out]; exact ⟨by decide, rfl⟩, hb⟩
              · have hUb : (U == 0) = false := beq_eq_false_iff_ne.2 hUz
                by_cases hov : Q < U
                · have HR : Hid (R = .err 5) := Lib.hid (by rw [← hQ, if_pos (.inr (.inr (by omega)))])
                  clear hdr hc hy hQ HEND hcd hdg hU0 hqk
                  go_wp2_with fail
                  refine (bad_any 5 w1).mono ?_
                  rintro e wb ⟨rfl, hbb⟩
                  unfold badV
                  have HZb := Lib.hid (HZ.out.later hbb)
                  have HBb := Lib.hid (HB.out.trans (hbb.mono HB.out.size))
                  obtain ⟨z0, z1, z2, z3, z4, z5⟩ := HZb.out.cells
                  obtain ⟨f0, f1, f2, f3, f4, f5⟩ := HZb.out.cells'
                  clear hbb
                  go_wp2
                  have hs := HZb.out.set (.int .i64 0) (.string ⟨#[]⟩) (.int .i64 0) (.slice none 0 0) (.int .i64 0) (.int .i64 5)
                  have hb := set6_below HBb.out (b := w.heap.size) (by omega) (.int .i64 0) (.string ⟨#[]⟩) (.int .i64 0) (.slice none 0 0) (.int .i64 0) (.int .i64 5)
                  show bodyPost _ _ _ .ret _ (set6 wb (w.heap.size) (.int .i64 0) (.string ⟨#[]⟩) (.int .i64 0) (.slice none 0 0) (.int .i64 0) (.int .i64 5))
                  generalize set6 wb (w.heap.size) (.int .i64 0) (.string ⟨#[]⟩) (.int .i64 0) (.slice none 0 0) (.int .i64 0) (.int .i64 5) = wend at hs hb
                  exact bodyPost_ret (results_cell rfl rfl (loadRd hs)) rfl ⟨by rw [HR.out]; exact ⟨by decide, rfl⟩, hb⟩
                · have hovn : decide (Q < U) = false := by rw [decide_eq_false_iff_not]; exact hov
                  have HQ2 : Hid (Rp.numL false m (decide (q + 1 = at_)) (10 * U + (y - 48)).toNat (B.drop (q + 1)) = R) := Lib.hid (by
                    rw [← hQ, if_neg (by
                      rintro (h | h | h)
                      · omega
                      · exact absurd h.2.1 (by decide)
                      · omega), decide_eq_false (by omega), hcd, show (10 * U + (y - 48)).toNat = 10 * U.toNat + (y - 48).toNat by omega])
                  have wT : IntKind.u64.wrap (10 * U) = 10 * U := by rw [IntKind.wrap_u64]; omega
                  have wS : IntKind.u64.wrap (10 * U + (y - 48)) = 10 * U + (y - 48) := by rw [IntKind.wrap_u64]; omega
                  have hle : 10 * U + (y - 48) ≤ (m : Int) := by omega
                  clear hdr hc hy hQ HEND hcd hdg hU0 hqk
                  go_wp2_with fail
                  go_round
                  case rel => exact ⟨q + 1, 10 * U + (y - 48), by omega, by omega, by go_num, rfl, by omega, by omega, fun h => by omega, HQ2⟩
                  case measure => simp [intOf]; omega
      · obtain rfl : q = B.length := by omega
        have h1I : ¬ (B.length : Int) < (B.length : Int) := by omega
        have hQ := HQ.out
        rw [drop_end (Nat.le_refl _), Rp.numL] at hQ
        have HR : Hid (R = .err 6) := Lib.hid hQ.symm
        clear hQ HQ HEND hU0
        go_wp2_with fail
        refine (bad_any 6 w1).mono ?_
        rintro e wb ⟨rfl, hbb⟩
        unfold badV
        have HZb := Lib.hid (HZ.out.later hbb)
        have HBb := Lib.hid (HB.out.trans (hbb.mono HB.out.size))
        obtain ⟨z0, z1, z2, z3, z4, z5⟩ := HZb.out.cells
        obtain ⟨f0, f1, f2, f3, f4, f5⟩ := HZb.out.cells'
        clear hbb
        go_wp2
        have hs := HZb.out.set (.int .i64 0) (.string ⟨#[]⟩) (.int .i64 0) (.slice none 0 0) (.int .i64 0) (.int .i64 6)
        have hb := set6_below HBb.out (b := w.heap.size) (by omega) (.int .i64 0) (.string ⟨#[]⟩) (.int .i64 0) (.slice none 0 0) (.int .i64 0) (.int .i64 6)
        show bodyPost _ _ _ .ret _ (set6 wb (w.heap.size) (.int .i64 0) (.string ⟨#[]⟩) (.int .i64 0) (.slice none 0 0) (.int .i64 0) (.int .i64 6))
        generalize set6 wb (w.heap.size) (.int .i64 0) (.string ⟨#[]⟩) (.int .i64 0) (.slice none 0 0) (.int .i64 0) (.int .i64 6) = wend at hs hb
        exact bodyPost_ret (results_cell rfl rfl (loadRd hs)) rfl ⟨by rw [HR.out]; exact ⟨by decide, rfl⟩, hb⟩

theorem number_ref (B : List UInt8) (at_ : Nat) (low : Bool) (m : Nat) (w : World) (hl : B.length ≤ 1000) (hi : at_ ≤ B.length) (hm9 : 9 ≤ m) (hm : m ≤ 9223372036854775807) :
    Calls Tryd.prog 43 #[.string ⟨B.toArray⟩, .int .i64 (at_ : Int), .bool low, .int .u64 (m : Int)] w (NumbOut B.length w (Rp.refN low m (B.drop at_))) := by
  by_cases hh : (B.drop at_).head? = some 45
  · exact number_minus B at_ low m w hl hi hm9 hm hh
  · exact number_plain B at_ low m w hl hi hm9 hm hh
end Go.Proofs.YtcjbfgkmpoebgaaDoor
