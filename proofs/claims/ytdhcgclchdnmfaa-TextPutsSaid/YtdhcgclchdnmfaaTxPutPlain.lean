/- What stands in a text into which another one was put. No program in it. -/
import Derived.Test.YtdhcgclchdnmfaaTxPlain
namespace Go.Proofs.Ytdhcgclchdnmfaa
namespace Tx

theorem putB_head (s : List UInt8) (k : Nat) : ((s ++ List.replicate (k - s.length) 0).take k).length = k := by
  rw [List.length_take, List.length_append, List.length_replicate]; omega
theorem putB_len (s v : List UInt8) (k : Nat) : (putB s k v).length = max s.length (k + v.length) := by
  unfold putB
  rw [List.length_append, List.length_append, putB_head, List.length_drop]; omega
theorem putB_mid (s v : List UInt8) (k : Nat) : ((putB s k v).take (k + v.length)).drop k = v := by
  unfold putB
  have h := putB_head s k
  generalize (s ++ List.replicate (k - s.length) 0).take k = H at *
  rw [List.append_assoc, List.take_append, List.take_of_length_le (by omega), h, show k + v.length - k = v.length by omega, List.take_left, List.drop_append, List.drop_eq_nil_of_le (by omega), h, Nat.sub_self]
  rfl
theorem getD_eq (l : List UInt8) (i : Nat) : l.getD i 0 = (l[i]?).getD 0 := by rw [List.getD_eq_getElem?_getD]
theorem putB_out (s v : List UInt8) (k i : Nat) (ho : i < k ∨ k + v.length ≤ i) : (putB s k v).getD i 0 = s.getD i 0 := by
  unfold putB
  have h := putB_head s k
  rw [getD_eq, getD_eq]
  rcases ho with ho | ho
  · rw [List.append_assoc, List.getElem?_append_left (by omega), List.getElem?_take_of_lt ho]
    by_cases hi : i < s.length
    · rw [List.getElem?_append_left hi]
    · rw [List.getElem?_append_right (by omega), List.getElem?_eq_none (l := s) (by omega), List.getElem?_replicate]
      split <;> rfl
  · rw [List.getElem?_append_right (by rw [List.length_append, h]; omega), List.length_append, h, List.getElem?_drop, show k + v.length + (i - (k + v.length)) = i by omega]
theorem putB_same (s v : List UInt8) (k : Nat) : putB (putB s k v) k v = putB s k v := by
  have hl := putB_len s v k
  have hm := putB_mid s v k
  generalize putB s k v = T at *
  unfold putB
  rw [show k - T.length = 0 by omega]
  have e1 : (T ++ List.replicate 0 (0 : UInt8)) = T := by simp
  rw [e1]
  have e2 : T.take k ++ v = T.take (k + v.length) := by
    have h3 := List.take_append_drop k (T.take (k + v.length))
    rw [hm, List.take_take, Nat.min_eq_left (by omega)] at h3
    exact h3
  rw [e2, List.take_append_drop]
end Tx
end Go.Proofs.Ytdhcgclchdnmfaa
