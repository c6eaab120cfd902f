/- Plain: a valid list of slots from 0 to 199, slot by slot. -/
import Derived.Test.YtlbmkgnfbkimaaaDoorCntPlain
namespace Go.Proofs.YtlbmkgnfbkimaaaDoor
namespace Sp

/-- does a run end here? (the slot is in, the one ahead of it is not) -/
def fst (l : List S) (n : Int) : Bool := hasB l n && !hasB l (n - 1)

/-- as many runs begin as there are spans. -/
theorem len_cnt : ∀ {l : List S}, Valid l → (l.length : Int) = cnt (fst l) 16384
  | [], _ => by
    have : fst ([] : List S) = fun _ => false := by funext n; rfl
    rw [this, cnt_none]; rfl
  | s :: r, hv => by
    have hs := hv.1 s (by simp)
    have ht : Valid r := ⟨fun t ht => hv.1 t (by simp [ht]), (List.pairwise_cons.1 hv.2).2⟩
    have hout : ∀ n : Int, n ≤ s.2 + 1 → hasB r n = false := fun n hn => by
      cases hh : hasB r n with
      | false => rfl
      | true =>
        obtain ⟨_, _, t, htm, g1, _⟩ := hasB_iff.1 hh
        have := (List.pairwise_cons.1 hv.2).1 t htm
        omega
    have h := cnt_lin (h := fst (s :: r)) (f := fun k => decide (s.1 ≤ k ∧ k ≤ s.1)) (g := fst r) (x := fun _ => false) 16384 (by
      intro k hk
      have hb : ∀ n : Int, n < 16384 → hasB (s :: r) n = ((decide (0 ≤ n) && decide (s.1 ≤ n ∧ n ≤ s.2)) || hasB r n) := fun n hn => by
        by_cases h0 : 0 ≤ n
        · rw [← inB_iff h0 hn, decide_eq_true h0]; simp [hasB]
        · rw [hasB_out (by omega), hasB_out (by omega), decide_eq_false h0]; rfl
      unfold fst
      rw [hb _ (by omega), hb _ (by omega), decide_eq_true (show 0 ≤ (k : Int) by omega)]
      by_cases c1 : (k : Int) < s.1
      · rw [hout _ (by omega), hout _ (by omega), decide_eq_false (show ¬ (s.1 ≤ (k : Int) ∧ (k : Int) ≤ s.2) by omega), decide_eq_false (show ¬ (s.1 ≤ (k : Int) ∧ (k : Int) ≤ s.1) by omega)]
        simp [one]
      · by_cases c2 : (k : Int) = s.1
        · rw [hout _ (by omega), hout _ (by omega), decide_eq_true (show (s.1 ≤ (k : Int) ∧ (k : Int) ≤ s.2) by omega), decide_eq_true (show (s.1 ≤ (k : Int) ∧ (k : Int) ≤ s.1) by omega), decide_eq_false (show ¬ (s.1 ≤ (k : Int) - 1 ∧ (k : Int) - 1 ≤ s.2) by omega)]
          simp [one]
        · rw [decide_eq_false (show ¬ (s.1 ≤ (k : Int) ∧ (k : Int) ≤ s.1) by omega), decide_eq_true (show 0 ≤ (k : Int) - 1 by omega)]
          by_cases c3 : (k : Int) ≤ s.2
          · rw [decide_eq_true (show (s.1 ≤ (k : Int) ∧ (k : Int) ≤ s.2) by omega), decide_eq_true (show (s.1 ≤ (k : Int) - 1 ∧ (k : Int) - 1 ≤ s.2) by omega), hout _ (by omega), hout _ (by omega)]
            simp [one]
          · rw [decide_eq_false (show ¬ (s.1 ≤ (k : Int) ∧ (k : Int) ≤ s.2) by omega)]
            by_cases c4 : (k : Int) = s.2 + 1
            · rw [decide_eq_true (show (s.1 ≤ (k : Int) - 1 ∧ (k : Int) - 1 ≤ s.2) by omega), hout k (by omega), hout _ (by omega)]
              simp [one]
            · rw [decide_eq_false (show ¬ (s.1 ≤ (k : Int) - 1 ∧ (k : Int) - 1 ≤ s.2) by omega)]
              simp [one])
    have e := len_cnt ht
    rw [h, cnt_none, cnt_span _ _ hs.1 (Int.le_refl _), if_neg (by omega), if_neg (by omega), ← e]
    simp; omega

/-- nothing lies behind slot N: counting to N is enough. -/
theorem cnt_stop {f : Int → Bool} {N : Nat} (h : ∀ k : Nat, N ≤ k → f k = false) : ∀ d : Nat, cnt f (N + d) = cnt f N
  | 0 => rfl
  | d + 1 => by
    rw [← Nat.add_assoc, cnt, cnt_stop h d, h (N + d) (by omega)]
    simp [one]

end Sp
end Go.Proofs.YtlbmkgnfbkimaaaDoor
