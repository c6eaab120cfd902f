/- The walk of the law TextParts. -/
import Derived.Test.YtdhcgclchdnmfaaTxAwake
namespace Go.Proofs.Ytdhcgclchdnmfaa
open Go.RowKit Go.Shelf
set_option linter.unusedVariables false
set_option linter.unusedSimpArgs false

theorem str_app' (l m : List UInt8) : (⟨l.toArray⟩ : ByteArray) ++ ⟨m.toArray⟩ = ⟨(l ++ m).toArray⟩ := by
  apply ByteArray.ext
  simp

namespace Tx
theorem parts_a {s : List UInt8} {k : Nat} (hk : k < s.length) : subS s 0 k = s.take (k + 1) := by
  unfold subS cutA cutB
  have e1 : ¬ ((0 : Int) < 0) := by omega
  have e2 : ¬ ((k : Int) < 0) := by omega
  rw [if_neg e1, if_neg e2, show min (k : Int) ((s.length : Int) - 1) = k by omega, if_neg e2, show ((k : Int) + 1).toNat = k + 1 by omega]
  rfl
theorem parts_from {s : List UInt8} {a : Int} {k : Nat} (hk : k ≤ s.length) (h0 : s ≠ []) (ha : a = k ∨ a = (k : Int) - s.length ∧ k < s.length) : subS s a (-1) = s.drop k := by
  have hpos : 0 < s.length := List.length_pos_iff.2 h0
  unfold subS cutA cutB
  rw [if_pos (show (-1 : Int) < 0 by omega), show min ((s.length : Int) + -1) ((s.length : Int) - 1) = (s.length : Int) - 1 by omega, show (if a < 0 then max 0 ((s.length : Int) + a) else a) = k by split <;> omega]
  rw [show ((s.length : Int) - 1 + 1).toNat = s.length by omega, List.take_length, Int.toNat_natCast]
  split
  · rw [List.drop_eq_nil_of_le (by omega)]
  · rfl
theorem parts_wide {s : List UInt8} (h0 : s ≠ []) (h1 : s.length ≤ 300) : subS s (-1000) 1000 = s := by
  have hpos : 0 < s.length := List.length_pos_iff.2 h0
  unfold subS cutA cutB
  rw [if_pos (show (-1000 : Int) < 0 by omega), if_neg (show ¬ ((1000 : Int) < 0) by omega), show max 0 ((s.length : Int) + -1000) = 0 by omega, show min (1000 : Int) ((s.length : Int) - 1) = (s.length : Int) - 1 by omega, if_neg (by omega), show ((s.length : Int) - 1 + 1).toNat = s.length by omega, List.take_length]
  rfl
theorem parts_none {s : List UInt8} {k : Nat} (hk : k < s.length) : subS s ((k : Int) + 1) k = [] := by
  unfold subS cutA cutB
  rw [if_neg (show ¬ ((k : Int) + 1 < 0) by omega), if_neg (show ¬ ((k : Int) < 0) by omega), if_pos (by omega)]
end Tx

set_option maxRecDepth 100000 in
set_option maxHeartbeats 8000000 in
theorem textParts_walk (s : List UInt8) (at_ : Int) (w : World) (h0 : 0 ≤ at_) (h1 : at_ ≤ 65535) (hl : s.length ≤ 9223372036854775807) :
    Calls Try.prog 4 #[.string ⟨s.toArray⟩, .int .u16 at_] w fun e W => e = .returned (.bool true) ∧ Below w.heap.size w W := by
  by_cases hs0 : s = []
  · subst hs0
    go_enter Try.func4, Try.ntmps4
    go_wp2_with (first
      | (go_at_call 8; refine (awake_any _).mono ?_; rintro e w4 ⟨rfl, hb⟩; have HB4 := Lib.hid hb; clear hb))
    go_ret
    exact ⟨rfl, HB4.out⟩
  · have hie : s.isEmpty = false := by rw [List.isEmpty_eq_false_iff]; exact hs0
    have hl2 : (s.length : Int) ≤ 9223372036854775807 := by omega
    by_cases hlong : 300 < s.length
    · have hlong2 : (300 : Int) < s.length := by omega
      go_enter Try.func4, Try.ntmps4
      go_wp2_with (first
        | (go_at_call 8; refine (awake_any _).mono ?_; rintro e w4 ⟨rfl, hb⟩; have HB4 := Lib.hid hb; clear hb))
      go_ret
      exact ⟨rfl, HB4.out⟩
    · have hpos : 0 < s.length := List.length_pos_iff.2 hs0
      have hposI : (0 : Int) < s.length := by omega
      obtain ⟨k, hk⟩ : ∃ k : Nat, at_.tmod s.length = k := ⟨(at_.tmod s.length).toNat, by rw [Int.toNat_of_nonneg (Int.tmod_nonneg _ h0)]⟩
      have hkl : k < s.length := by
        have := Int.tmod_lt_of_pos at_ hposI
        omega
      have hsub : ∀ a b, -9223372036854775808 ≤ a → a ≤ 9223372036854775807 → -9223372036854775808 ≤ b → b ≤ 9223372036854775807 → ∀ W, Calls Try.prog 9 #[.string ⟨s.toArray⟩, .int .i64 a, .int .i64 b] W fun e W' => e = .returned (.string ⟨(Tx.subS s a b).toArray⟩) ∧ Below W.heap.size W W' := fun a b a0 a1 b0 b1 W => sub_any s a b W (by omega) a0 a1 b0 b1
      have cA := hsub 0 k (by omega) (by omega) (by omega) (by omega)
      have cB := hsub ((k : Int) + 1) (-1) (by omega) (by omega) (by omega) (by omega)
      have cC := hsub ((k : Int) - s.length) (-1) (by omega) (by omega) (by omega) (by omega)
      have cD := hsub 0 (-1) (by omega) (by omega) (by omega) (by omega)
      have cE := hsub (-1000) 1000 (by omega) (by omega) (by omega) (by omega)
      have cF := hsub ((k : Int) + 1) k (by omega) (by omega) (by omega) (by omega)
      rw [Tx.parts_a hkl] at cA
      rw [Tx.parts_from (k := k + 1) (by omega) hs0 (.inl (by omega))] at cB
      rw [Tx.parts_from (k := k) (by omega) hs0 (.inr ⟨rfl, hkl⟩)] at cC
      rw [show Tx.subS s 0 (-1) = s from Tx.parts_from (k := 0) (by omega) hs0 (.inl rfl)] at cD
      rw [Tx.parts_wide hs0 (by omega)] at cE
      rw [Tx.parts_none hkl] at cF
      have hab : (⟨(s.take (k + 1)).toArray⟩ : ByteArray) ++ ⟨(s.drop (k + 1)).toArray⟩ = ⟨s.toArray⟩ := by rw [str_app', List.take_append_drop]
      have hex : (⟨s.toArray⟩ : ByteArray).extract k s.length = ⟨(s.drop k).toArray⟩ := by rw [sub_str s k s.length (by omega) (Nat.le_refl _), List.take_length]
      have hA : (s.take (k + 1)).length = k + 1 := by rw [List.length_take]; omega
      have hB : (s.drop (k + 1)).length ≤ 300 := by rw [List.length_drop]; omega
      have hC : (s.drop k).length ≤ 300 := by rw [List.length_drop]; omega
      generalize s.take (k + 1) = A at *
      generalize s.drop (k + 1) = B at *
      generalize s.drop k = C at *
      have hkI : (k : Int) < s.length := by omega
      have hk300 : (k : Int) < 300 := by omega
      have h300 : (s.length : Int) ≤ 300 := by omega
      have HS := Lib.hid (And.intro cA (And.intro cB (And.intro cC (And.intro cD (And.intro cE cF)))))
      clear cA cB cC cD cE cF hsub hkl hlong hl
      go_enter Try.func4, Try.ntmps4
      go_wp2_with fail
      refine (HS.out.1 _).mono ?_
      rintro e w1 ⟨rfl, hb⟩
      have HB1 := Lib.hid hb
      clear hb
      go_wp2_with fail
      refine (HS.out.2.1 _).mono ?_
      rintro e w2 ⟨rfl, hb⟩
      have HB2 := Lib.hid (HB1.out.trans (hb.mono HB1.out.size))
      clear hb
      go_wp2_with fail
      refine (HS.out.2.2.1 _).mono ?_
      rintro e w3 ⟨rfl, hb⟩
      have HB3 := Lib.hid (HB2.out.trans (hb.mono HB2.out.size))
      clear hb
      go_wp2_with fail
      refine (HS.out.2.2.2.1 _).mono ?_
      rintro e w4 ⟨rfl, hb⟩
      have HB4 := Lib.hid (HB3.out.trans (hb.mono HB3.out.size))
      clear hb
      go_wp2_with fail
      refine (HS.out.2.2.2.2.1 _).mono ?_
      rintro e w5 ⟨rfl, hb⟩
      have HB5 := Lib.hid (HB4.out.trans (hb.mono HB4.out.size))
      clear hb
      go_wp2_with fail
      refine (HS.out.2.2.2.2.2 _).mono ?_
      rintro e w6 ⟨rfl, hb⟩
      have HB6 := Lib.hid (HB5.out.trans (hb.mono HB5.out.size))
      clear hb
      go_wp2_with fail
      refine (awake_any _).mono ?_
      rintro e w7 ⟨rfl, hb⟩
      have HB7 := Lib.hid (HB6.out.trans (hb.mono HB6.out.size))
      clear hb
      go_wp2_with fail
      go_ret
      exact ⟨rfl, HB7.out⟩
end Go.Proofs.Ytdhcgclchdnmfaa
