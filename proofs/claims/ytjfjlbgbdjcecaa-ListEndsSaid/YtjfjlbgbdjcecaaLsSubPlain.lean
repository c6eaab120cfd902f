/- Parts of rows, plain. -/
import Derived.Test.YtjfjlbgbdjcecaaLsPlain
namespace Go.Proofs.Ytjfjlbgbdjcecaa.Ls

theorem subS_eq {l : List Bs} {x y : Int} {F M : Nat} (h1 : max (ix l.length x) 0 = (F : Int)) (h2 : min (ix l.length y) ((l.length : Int) - 1) = (M : Int)) (h : F ≤ M) : subS l x y = (l.drop F).take (M + 1 - F) := by
  unfold subS
  rw [h1, h2, if_neg (by omega), Int.toNat_natCast, Int.toNat_natCast]
theorem subS_none {l : List Bs} {x y : Int} (h : max (ix l.length x) 0 > min (ix l.length y) ((l.length : Int) - 1)) : subS l x y = [] := by
  unfold subS
  rw [if_pos h]
theorem subS_mem {l : List Bs} {x y : Int} {s : Bs} (h : s ∈ subS l x y) : s ∈ l := by
  unfold subS at h
  split at h
  · simp at h
  · exact List.mem_of_mem_drop (List.mem_of_mem_take h)
theorem sub_first {l : List Bs} {I : Nat} (h : I < l.length) : subS l 0 (I : Int) = l.take (I + 1) := by
  rw [subS_eq (F := 0) (M := I) (by unfold ix; omega) (by unfold ix; split <;> omega) (Nat.zero_le _)]
  simp
theorem sub_last {l : List Bs} {I : Nat} (h : I < l.length) : subS l ((I : Int) + 1) (-1) = l.drop (I + 1) := by
  by_cases hI : I + 1 < l.length
  · rw [subS_eq (F := I + 1) (M := l.length - 1) (by unfold ix; split <;> omega) (by unfold ix; rw [if_pos (by omega)]; omega) (by omega)]
    rw [List.take_of_length_le (by rw [List.length_drop]; omega)]
  · rw [subS_none (by unfold ix; rw [if_neg (by omega), if_pos (by omega)]; omega), List.drop_eq_nil_of_le (by omega)]
theorem sub_mid {l : List Bs} {I K : Nat} (h : I ≤ K) (hK : K < l.length) : subS l (I : Int) (K : Int) = (l.drop I).take (K + 1 - I) :=
  subS_eq (by unfold ix; rw [if_neg (by omega)]; omega) (by unfold ix; rw [if_neg (by omega)]; omega) h
theorem sub_neg {l : List Bs} {I K : Nat} (h : I ≤ K) (hK : K < l.length) : subS l ((I : Int) - (l.length : Int)) ((K : Int) - (l.length : Int)) = (l.drop I).take (K + 1 - I) :=
  subS_eq (by unfold ix; rw [if_pos (by omega)]; omega) (by unfold ix; rw [if_pos (by omega)]; omega) h
theorem sub_all (l : List Bs) : subS l 0 (-1) = l := by
  by_cases h : l.length = 0
  · have : l = [] := List.eq_nil_of_length_eq_zero h
    subst this
    rfl
  · rw [subS_eq (F := 0) (M := l.length - 1) (by unfold ix; omega) (by unfold ix; rw [if_pos (by omega)]; omega) (Nat.zero_le _)]
    simp only [List.drop_zero]
    exact List.take_of_length_le (by omega)
theorem sub_nil {l : List Bs} {K : Nat} (hK : K < l.length) : subS l ((K : Int) + 1) (K : Int) = [] :=
  subS_none (by unfold ix; rw [if_neg (by omega), if_neg (by omega)]; omega)
theorem sub_far {l : List Bs} (h0 : 0 < l.length) (h : l.length ≤ 60) : subS l (-100) 100 = l := by
  rw [subS_eq (F := 0) (M := l.length - 1) (by unfold ix; rw [if_pos (by omega)]; omega) (by unfold ix; rw [if_neg (by omega)]; omega) (Nat.zero_le _)]
  simp only [List.drop_zero]
  exact List.take_of_length_le (by omega)
theorem sub_cut {l : List Bs} {n : Nat} (h : 0 < n) (hn : n ≤ l.length) : subS l 0 ((n : Int) - 1) = l.take n := by
  rw [subS_eq (F := 0) (M := n - 1) (by unfold ix; omega) (by unfold ix; split <;> omega) (Nat.zero_le _)]
  simp only [List.drop_zero]
  rw [show n - 1 + 1 - 0 = n by omega]
theorem sub_tail {l : List Bs} {n : Nat} (hn : n ≤ l.length) : subS l (n : Int) (-1) = l.drop n := by
  by_cases hI : n < l.length
  · rw [subS_eq (F := n) (M := l.length - 1) (by unfold ix; split <;> omega) (by unfold ix; rw [if_pos (by omega)]; omega) (by omega)]
    rw [List.take_of_length_le (by rw [List.length_drop]; omega)]
  · by_cases h0 : l.length = 0
    · have : l = [] := List.eq_nil_of_length_eq_zero h0
      subst this
      rw [subS_none (by unfold ix; rw [if_neg (by omega), if_pos (by omega)]; simp at hn; simp; omega)]
      simp
    · rw [subS_none (by unfold ix; rw [if_neg (by omega), if_pos (by omega)]; omega), List.drop_eq_nil_of_le (by omega)]
end Go.Proofs.Ytjfjlbgbdjcecaa.Ls
