/- The law's example. -/
import Derived.Test.YtchladbjhodkoaaOwJoin
import Derived.Test.YtchladbjhodkoaaOwOf
namespace Go.Proofs.Ytchladbjhodkoaa
open Go.RowKit Go.Shelf

theorem told_ex : Ow.Told (giveF [] [(3, 5)] 1 2) [⟨3, 5, 1, 2⟩] 16384 := by
  refine ⟨by show Ow.okC _; unfold Ow.okC; decide, by simp, fun k h0 h1 => ?_⟩
  unfold giveF
  by_cases hk : 3 ≤ k ∧ k ≤ 5
  · have a : Sp.hasB [(3, 5)] k = true := Sp.hasB_iff.2 ⟨h0, h1, _, List.mem_singleton.2 rfl, hk⟩
    rw [a, Ow.own_first hk.1 hk.2]
    rfl
  · have a : Sp.hasB [(3, 5)] k = false := by
      rw [Bool.eq_false_iff]
      intro h
      obtain ⟨_, _, s, hs, h2, h3⟩ := Sp.hasB_iff.1 h
      rw [List.mem_singleton] at hs
      subst hs
      exact hk ⟨h2, h3⟩
    rw [a, Ow.own_none fun c hc => by
      rw [List.mem_singleton] at hc
      subst hc
      exact Ow.inC_not.2 (by simp only; omega)]
    rfl

/-- two lists that tell the same are one. -/
theorem told_one {g g' : Int → Option Ow.O} {l m : List Ow.C} (h : Ow.Told g l 16384) (h' : Ow.Told g' m 16384) (hg : ∀ k, 0 ≤ k → k < 16384 → g k = g' k) : sameC l m = true := by
  rw [sameC, decide_eq_true_eq]; exact h.whole h' hg

set_option maxRecDepth 100000 in
set_option maxHeartbeats 4000000 in
theorem awake_any (w : World) : Calls Try.prog 9 #[] w fun e w' => e = .returned (.bool true) ∧ Below w.heap.size w w' := by
  have hs1 : Spans (w.alloc (.cells #[.int .i64 3, .int .i64 5] 51)) (some ⟨w.heap.size, 0, none⟩) 1 [(3, 5)] := by
    refine ⟨by simp, by simp, by simp, .inr ⟨_, 0, rfl, by simp, fun k hk => ?_⟩⟩
    simp only [List.length_cons, List.length_nil] at hk
    obtain rfl : k = 0 := by omega
    exact ⟨by rw [World.cell?_alloc_new]; rfl, by rw [World.cell?_alloc_new]; rfl⟩
  have HG := Lib.hid (give_any none (some ⟨w.heap.size, 0, none⟩) 0 1 [] [(3, 5)] 1 2 _ (by decide) trivial (by simp) (cls_nil _) hs1)
  clear hs1
  go_enter Try.func9, Try.ntmps9
  go_wp2_with fail
  refine HG.out.mono ?_
  rintro e w1 ⟨a, cap, l, rfl, ht, hc, hb⟩
  obtain rfl : l = [⟨3, 5, 1, 2⟩] := ht.whole told_ex fun _ _ _ => rfl
  have HC := Lib.hid hc
  have HB := Lib.hid (((Below.refl _ w).alloc (Nat.le_refl _) (.cells #[.int .i64 3, .int .i64 5] 51)).trans (hb.mono (by simp)))
  have HT := Lib.hid ht
  clear hc hb ht HG
  have HO := Lib.hid (of_any a cap [⟨3, 5, 1, 2⟩] 4 w1 HC.out HT.out.1)
  go_wp2_with fail
  refine HO.out.mono ?_
  rintro e w2 ⟨rfl, hb⟩
  have HB2 := Lib.hid hb
  clear hb HO
  have HJ := Lib.hid (join_any a none cap 0 [⟨3, 5, 1, 2⟩] [] w2 HT.out.1 trivial (HC.out.later HB2.out) (cls_nil _))
  have e1 : (Ow.zo (Ow.own [⟨3, 5, 1, 2⟩] 4)).1 = 1 := by decide
  have e2 : (Ow.zo (Ow.own [⟨3, 5, 1, 2⟩] 4)).2 = 2 := by decide
  have e3 : (Ow.own [⟨3, 5, 1, 2⟩] 4).isSome = true := by decide
  rw [e1, e2, e3]
  simp only [List.length_cons, List.length_nil] at HJ ⊢
  go_wp2_with fail
  refine HJ.out.mono ?_
  rintro e w3 ⟨a3, cap3, l3, rfl, ht3, hc3, hb3⟩
  have HSM := Lib.hid (same_any a3 a cap3 cap l3 [⟨3, 5, 1, 2⟩] w3 hc3 ((HC.out.later HB2.out).later hb3))
  have hq : sameC l3 [⟨3, 5, 1, 2⟩] = true := told_one ht3 HT.out fun k h0 h1 => by
    rw [← HT.out.2.2 k h0 h1]
    simp only [Ow.own]
    cases (if Ow.inC k ⟨3, 5, 1, 2⟩ = true then some ((1 : Int), (2 : Int)) else none) <;> rfl
  rw [hq] at HSM
  have HB3 := Lib.hid (HB.out.trans ((HB2.out.trans (hb3.mono HB2.out.size)).mono HB.out.size))
  clear hq ht3 hc3 hb3
  simp only [List.length_cons, List.length_nil] at HSM ⊢
  go_wp2_with fail
  refine HSM.out.mono ?_
  rintro e w4 ⟨rfl, hb⟩
  have HB4 := Lib.hid hb
  clear hb
  go_wp2
  go_ret
  exact ⟨rfl, HB3.out.trans (HB4.out.mono HB3.out.size)⟩
end Go.Proofs.Ytchladbjhodkoaa
