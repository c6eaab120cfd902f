/- Plain: how many slots a valid list says; what two lists say in whatever order. -/
import Derived.Test.YtlbmkgnfbkimaaaDoorSpNorm
import Derived.Test.YtlbmkgnfbkimaaaDoorTextPlain
namespace Go.Proofs.YtlbmkgnfbkimaaaDoor
namespace Sp

def one (b : Bool) : Int := if b then 1 else 0
def cnt (f : Int → Bool) : Nat → Int
  | 0 => 0
  | n + 1 => cnt f n + one (f n)

theorem cnt_bound (f : Int → Bool) : ∀ n : Nat, 0 ≤ cnt f n ∧ cnt f n ≤ n
  | 0 => by simp [cnt]
  | n + 1 => by
    have := cnt_bound f n
    have h : one (f n) = 0 ∨ one (f n) = 1 := by unfold one; split <;> simp
    simp only [cnt]
    omega

theorem cnt_lin {h f g x : Int → Bool} : ∀ n : Nat, (∀ k : Nat, k < n → one (h k) = one (f k) + one (g k) - one (x k)) → cnt h n = cnt f n + cnt g n - cnt x n
  | 0, _ => by simp [cnt]
  | n + 1, hk => by
    have h1 := cnt_lin n (fun k hk' => hk k (by omega))
    have h2 := hk n (by omega)
    simp only [cnt]
    omega

theorem cnt_none (n : Nat) : cnt (fun _ => false) n = 0 := by
  induction n with
  | zero => rfl
  | succ n ih => simp [cnt, ih, one]

theorem cnt_span (a b : Int) (h0 : 0 ≤ a) (h1 : a ≤ b) : ∀ n : Nat, cnt (fun k => decide (a ≤ k ∧ k ≤ b)) n = (if (n : Int) ≤ a then 0 else if (n : Int) ≤ b then n - a else b - a + 1)
  | 0 => by rw [if_pos (by simpa using h0)]; rfl
  | n + 1 => by
    rw [cnt, cnt_span a b h0 h1 n]
    unfold one
    by_cases h : a ≤ (n : Int) ∧ (n : Int) ≤ b
    · rw [decide_eq_true h, if_pos rfl, if_neg (show ¬ ((n + 1 : Nat) : Int) ≤ a by omega)]
      by_cases h2 : (n : Int) ≤ a
      · rw [if_pos h2]; split <;> omega
      · rw [if_neg h2, if_pos h.2]; split <;> omega
    · have e0 : (if (false : Bool) = true then (1 : Int) else 0) = 0 := rfl
      rw [decide_eq_false h, e0, Int.add_zero]
      repeat' split
      all_goals omega

theorem sumS_cnt : ∀ {l : List S}, Valid l → sumS l = cnt (hasB l) 16384
  | [], _ => by
    have : hasB ([] : List S) = fun _ => false := by funext n; rfl
    rw [this, cnt_none]; rfl
  | s :: r, hv => by
    have hs := hv.1 s (by simp)
    have ht : Valid r := ⟨fun t ht => hv.1 t (by simp [ht]), (List.pairwise_cons.1 hv.2).2⟩
    have e : sumS (s :: r) = (s.2 - s.1 + 1) + sumS r := by simp [sumS]
    have h := cnt_lin (h := hasB (s :: r)) (f := fun k => decide (s.1 ≤ k ∧ k ≤ s.2)) (g := hasB r) (x := fun _ => false) 16384 (by
      intro k hk
      have hb : hasB (s :: r) k = (decide (s.1 ≤ (k : Int) ∧ (k : Int) ≤ s.2) || hasB r k) := by
        rw [← inB_iff (by omega) (by omega)]; simp [hasB]
      rw [hb]
      by_cases hk2 : s.1 ≤ (k : Int) ∧ (k : Int) ≤ s.2
      · have hr : hasB r k = false := by
          cases hh : hasB r k with
          | false => rfl
          | true =>
            obtain ⟨_, _, t, htm, g1, _⟩ := hasB_iff.1 hh
            have := (List.pairwise_cons.1 hv.2).1 t htm
            omega
        rw [hr, decide_eq_true hk2]; rfl
      · rw [decide_eq_false hk2]; simp [one])
    rw [e, sumS_cnt ht, h, cnt_none, cnt_span _ _ hs.1 hs.2.1, if_neg (by omega), if_neg (by omega)]
    omega

theorem cnt_mix (how : Int) (a b : List S) : sumS (mixS how a b) = cnt (fun n => cnd how (hasB a n) (hasB b n)) 16384 := by
  rw [sumS_cnt (mixS_spec how a b).1]
  have h := cnt_lin (h := hasB (mixS how a b)) (f := fun n => cnd how (hasB a n) (hasB b n)) (g := fun _ => false) (x := fun _ => false) 16384 (by
    intro k hk
    rw [(mixS_spec how a b).2]
    have : decide (0 ≤ (k : Int) ∧ (k : Int) < 16384) = true := by simp; omega
    rw [this, Bool.true_and]; simp [one])
  rw [h, cnt_none]; omega

theorem mix_bound (how : Int) (a b : List S) : 0 ≤ sumS (mixS how a b) ∧ sumS (mixS how a b) ≤ 16384 := by
  rw [cnt_mix]; exact cnt_bound _ 16384

theorem sum_union (a b : List S) : sumS (mixS 0 a b) = sumS (mixS 0 a []) + sumS (mixS 0 b []) - sumS (mixS 2 a b) := by
  simp only [cnt_mix]
  refine cnt_lin 16384 fun k _ => ?_
  have : hasB ([] : List S) k = false := rfl
  rw [this]
  cases hasB a k <;> cases hasB b k <;> rfl

theorem sum_minus (a b : List S) : sumS (mixS 1 a b) = sumS (mixS 0 a []) - sumS (mixS 2 a b) := by
  simp only [cnt_mix]
  have h := cnt_lin (h := fun n => cnd 1 (hasB a n) (hasB b n)) (f := fun n => cnd 0 (hasB a n) (hasB [] n)) (g := fun _ => false) (x := fun n => cnd 2 (hasB a n) (hasB b n)) 16384 (fun k _ => by
    have : hasB ([] : List S) k = false := rfl
    simp only [this]
    cases hasB a k <;> cases hasB b k <;> rfl)
  rw [h, cnt_none]; omega

/-- two mixes that say the same are one. -/
theorem mix_eq {how how' : Int} {a b a' b' : List S} (h : ∀ n, 0 ≤ n → n < 16384 → cnd how (hasB a n) (hasB b n) = cnd how' (hasB a' n) (hasB b' n)) : mixS how a b = mixS how' a' b' := by
  refine Valid.unique (mixS_spec how a b).1 (mixS_spec how' a' b').1 fun n => ?_
  rw [(mixS_spec how a b).2, (mixS_spec how' a' b').2]
  by_cases hn : 0 ≤ n ∧ n < 16384
  · rw [h n hn.1 hn.2]
  · rw [decide_eq_false hn]; rfl

theorem mix_has {how : Int} {a b : List S} {n : Int} (h0 : 0 ≤ n) (h1 : n < 16384) : hasB (mixS how a b) n = cnd how (hasB a n) (hasB b n) := by
  rw [(mixS_spec how a b).2, decide_eq_true ⟨h0, h1⟩, Bool.true_and]

theorem union_comm (a b : List S) : mixS 0 a b = mixS 0 b a := mix_eq fun n _ _ => by cases hasB a n <;> cases hasB b n <;> rfl
theorem both_comm (a b : List S) : mixS 2 a b = mixS 2 b a := mix_eq fun n _ _ => by cases hasB a n <;> cases hasB b n <;> rfl
theorem parts (a b : List S) : mixS 0 (mixS 1 a b) (mixS 2 a b) = mixS 0 a [] := mix_eq fun n h0 h1 => by
  rw [mix_has h0 h1, mix_has h0 h1]
  have : hasB ([] : List S) n = false := rfl
  rw [this]
  cases hasB a n <;> cases hasB b n <;> rfl
theorem apart (a b : List S) : mixS 2 (mixS 1 a b) b = [] := by
  have h : mixS 2 (mixS 1 a b) b = mixS 0 [] [] := mix_eq fun n h0 h1 => by
    rw [mix_has h0 h1]
    have : hasB ([] : List S) n = false := rfl
    rw [this]
    cases hasB a n <;> cases hasB b n <;> rfl
  rw [h]
  exact Tx.mix_self ⟨by simp, by simp⟩

theorem self (how : Int) (a b : List S) : mixS 0 (mixS how a b) [] = mixS how a b := Tx.mix_self (mixS_spec how a b).1

end Sp
end Go.Proofs.YtlbmkgnfbkimaaaDoor
