/- Plain: how many slots a valid list says (without what stage 2's readers need). -/
import Derived.Test.YtchladbjhodkoaaSpNorm
namespace Go.Proofs.Ytchladbjhodkoaa
namespace Sp

def one (b : Bool) : Int := if b then 1 else 0
def cnt (f : Int → Bool) : Nat → Int
  | 0 => 0
  | n + 1 => cnt f n + one (f n)

theorem cnt_bound (f : Int → Bool) : ∀ n : Nat, 0 ≤ cnt f n ∧ cnt f n ≤ n
  | 0 => by simp [cnt]
  | n + 1 => by
    have := cnt_bound f n
    have h : one (f n) = 0 ∨ one (f n) = 1 := by unfold one; split <;> simp
    simp only [cnt]
    omega

theorem cnt_lin {h f g x : Int → Bool} : ∀ n : Nat, (∀ k : Nat, k < n → one (h k) = one (f k) + one (g k) - one (x k)) → cnt h n = cnt f n + cnt g n - cnt x n
  | 0, _ => by simp [cnt]
  | n + 1, hk => by
    have h1 := cnt_lin n (fun k hk' => hk k (by omega))
    have h2 := hk n (by omega)
    simp only [cnt]
    omega

theorem cnt_none (n : Nat) : cnt (fun _ => false) n = 0 := by
  induction n with
  | zero => rfl
  | succ n ih => simp [cnt, ih, one]

theorem cnt_span (a b : Int) (h0 : 0 ≤ a) (h1 : a ≤ b) : ∀ n : Nat, cnt (fun k => decide (a ≤ k ∧ k ≤ b)) n = (if (n : Int) ≤ a then 0 else if (n : Int) ≤ b then n - a else b - a + 1)
  | 0 => by rw [if_pos (by simpa using h0)]; rfl
  | n + 1 => by
    rw [cnt, cnt_span a b h0 h1 n]
    unfold one
    by_cases h : a ≤ (n : Int) ∧ (n : Int) ≤ b
    · rw [decide_eq_true h, if_pos rfl, if_neg (show ¬ ((n + 1 : Nat) : Int) ≤ a by omega)]
      by_cases h2 : (n : Int) ≤ a
      · rw [if_pos h2]; split <;> omega
      · rw [if_neg h2, if_pos h.2]; split <;> omega
    · have e0 : (if (false : Bool) = true then (1 : Int) else 0) = 0 := rfl
      rw [decide_eq_false h, e0, Int.add_zero]
      repeat' split
      all_goals omega

theorem sumS_cnt : ∀ {l : List S}, Valid l → sumS l = cnt (hasB l) 16384
  | [], _ => by
    have : hasB ([] : List S) = fun _ => false := by funext n; rfl
    rw [this, cnt_none]; rfl
  | s :: r, hv => by
    have hs := hv.1 s (by simp)
    have ht : Valid r := ⟨fun t ht => hv.1 t (by simp [ht]), (List.pairwise_cons.1 hv.2).2⟩
    have e : sumS (s :: r) = (s.2 - s.1 + 1) + sumS r := by simp [sumS]
    have h := cnt_lin (h := hasB (s :: r)) (f := fun k => decide (s.1 ≤ k ∧ k ≤ s.2)) (g := hasB r) (x := fun _ => false) 16384 (by
      intro k hk
      have hb : hasB (s :: r) k = (decide (s.1 ≤ (k : Int) ∧ (k : Int) ≤ s.2) || hasB r k) := by
        rw [← inB_iff (by omega) (by omega)]; simp [hasB]
      rw [hb]
      by_cases hk2 : s.1 ≤ (k : Int) ∧ (k : Int) ≤ s.2
      · have hr : hasB r k = false := by
          cases hh : hasB r k with
          | false => rfl
          | true =>
            obtain ⟨_, _, t, htm, g1, _⟩ := hasB_iff.1 hh
            have := (List.pairwise_cons.1 hv.2).1 t htm
            omega
        rw [hr, decide_eq_true hk2]; rfl
      · rw [decide_eq_false hk2]; simp [one])
    rw [e, sumS_cnt ht, h, cnt_none, cnt_span _ _ hs.1 hs.2.1, if_neg (by omega), if_neg (by omega)]
    omega

theorem cnt_mix (how : Int) (a b : List S) : sumS (mixS how a b) = cnt (fun n => cnd how (hasB a n) (hasB b n)) 16384 := by
  rw [sumS_cnt (mixS_spec how a b).1]
  have h := cnt_lin (h := hasB (mixS how a b)) (f := fun n => cnd how (hasB a n) (hasB b n)) (g := fun _ => false) (x := fun _ => false) 16384 (by
    intro k hk
    rw [(mixS_spec how a b).2]
    have : decide (0 ≤ (k : Int) ∧ (k : Int) < 16384) = true := by simp; omega
    rw [this, Bool.true_and]; simp [one])
  rw [h, cnt_none]; omega

theorem mix_bound (how : Int) (a b : List S) : 0 ≤ sumS (mixS how a b) ∧ sumS (mixS how a b) ≤ 16384 := by
  rw [cnt_mix]; exact cnt_bound _ 16384

theorem mix_self {l : List Sp.S} (hv : Sp.Valid l) : Sp.mixS 0 l [] = l := by
  have hm := Sp.mixS_spec 0 l []
  refine Sp.Valid.unique hm.1 hv fun n => ?_
  rw [hm.2]
  have : Sp.hasB [] n = false := rfl
  rw [this]
  by_cases hn : 0 ≤ n ∧ n < 16384
  · simp [hn, Sp.cnd]
  · rw [Sp.hasB_out (by omega)]
    simp [Sp.cnd]
theorem cnt_congr {f g : Int → Bool} (n : Nat) (h : ∀ k : Nat, k < n → f k = g k) : cnt f n = cnt g n := by
  have := cnt_lin (h := f) (f := g) (g := fun _ => false) (x := fun _ => false) n (fun k hk => by rw [h k hk]; simp [one])
  rw [this, cnt_none]; omega
end Sp
end Go.Proofs.Ytchladbjhodkoaa
