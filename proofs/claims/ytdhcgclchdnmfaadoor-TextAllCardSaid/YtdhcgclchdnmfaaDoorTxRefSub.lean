/- The contracts of the reference's Cut and Sub. -/
import Derived.Test.YtdhcgclchdnmfaaDoorTxRefNum
namespace Go.Proofs.YtdhcgclchdnmfaaDoor
open Go.RowKit Go.Shelf
set_option linter.unusedVariables false
set_option linter.unusedSimpArgs false

theorem ret_two {a b c d : Int} (h : a = b) (k : c = d) : Ending.returned (.tuple #[.int .i64 a, .int .i64 c]) = .returned (.tuple #[.int .i64 b, .int .i64 d]) := by rw [h, k]

set_option maxRecDepth 100000 in
set_option maxHeartbeats 2000000 in
theorem refCut_any (n a b : Int) (w : World) (n0 : 0 ≤ n) (n1 : n ≤ 1000000) (a0 : -9223372036854775808 ≤ a) (a1 : a ≤ 9223372036854775807) (b0 : -9223372036854775808 ≤ b) (b1 : b ≤ 9223372036854775807) :
    Calls Tryd.prog 25 #[.int .i64 n, .int .i64 a, .int .i64 b] w fun e W => e = .returned (.tuple #[.int .i64 (Tx.cutA n a), .int .i64 (Tx.cutB n b)]) ∧ w = W := by
  by_cases ha : a < 0
  all_goals
    by_cases hb : b < 0
    all_goals
      go_enter Tryd.func25, Tryd.ntmps25
      go_wp2
      all_goals
        go_ret2
        exact ⟨ret_two (by unfold Tx.cutA; split <;> omega) (by unfold Tx.cutB; split <;> omega), rfl⟩

set_option maxRecDepth 100000 in
set_option maxHeartbeats 4000000 in
theorem refSub_any (s : List UInt8) (a b : Int) (w : World) (hl : s.length ≤ 1000000) (a0 : -9223372036854775808 ≤ a) (a1 : a ≤ 9223372036854775807) (b0 : -9223372036854775808 ≤ b) (b1 : b ≤ 9223372036854775807) :
    Calls Tryd.prog 14 #[.string ⟨s.toArray⟩, .int .i64 a, .int .i64 b] w fun e W => e = .returned (.string ⟨(Tx.subS s a b).toArray⟩) ∧ w = W := by
  have hc := refCut_any s.length a b w (by omega) (by omega) a0 a1 b0 b1
  have hA : 0 ≤ Tx.cutA s.length a := by unfold Tx.cutA; split <;> omega
  have hB : Tx.cutB s.length b ≤ (s.length : Int) - 1 := by unfold Tx.cutB; omega
  have hS := show Tx.subS s a b = (if Tx.cutB s.length b < Tx.cutA s.length a then [] else (s.take (Tx.cutB s.length b + 1).toNat).drop (Tx.cutA s.length a).toNat) from rfl
  have hB2 : -9223372036854775808 ≤ Tx.cutB s.length b := by unfold Tx.cutB; split <;> omega
  have hA2 : Tx.cutA s.length a ≤ 9223372036854775807 := by unfold Tx.cutA; split <;> omega
  generalize Tx.cutA s.length a = i at *
  generalize Tx.cutB s.length b = k at *
  have HC := Lib.hid hc
  have HS := Lib.hid hS
  clear hc hS
  by_cases hlt : k < i
  · rw [show Tx.subS s a b = [] by rw [HS.out, if_pos hlt]]
    go_enter Tryd.func14, Tryd.ntmps14
    go_wp2_with (go_at_call 25; refine HC.out.mono ?_; rintro e w1 ⟨rfl, rfl⟩)
    go_ret
    exact ⟨rfl, rfl⟩
  · obtain ⟨i', rfl⟩ := Int.eq_ofNat_of_zero_le hA
    obtain ⟨k', rfl⟩ := Int.eq_ofNat_of_zero_le (show 0 ≤ k by omega)
    have hss : Tx.subS s a b = (s.take (k' + 1)).drop i' := by rw [HS.out, if_neg hlt, Int.toNat_natCast, show ((k' : Int) + 1).toNat = k' + 1 by omega]
    rw [hss]
    have hx := sub_str s i' (k' + 1) (by omega) (by omega)
    have hik : (i' : Int) ≤ (k' : Int) + 1 := by omega
    have hkl : (k' : Int) + 1 ≤ (s.length : Int) := by omega
    have HX := Lib.hid hx
    have h1 : (i' : Int) ≤ (k' : Int) := by omega
    clear hss hx hlt
    go_enter Tryd.func14, Tryd.ntmps14
    go_wp2_with (go_at_call 25; refine HC.out.mono ?_; rintro e w1 ⟨rfl, rfl⟩)
    go_ret
    exact ⟨by rw [← HX.out]; rfl, rfl⟩
end Go.Proofs.YtdhcgclchdnmfaaDoor
