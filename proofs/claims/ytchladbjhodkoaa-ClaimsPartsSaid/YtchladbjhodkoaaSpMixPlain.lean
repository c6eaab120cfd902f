/- Plain mathematics of the reference's Mix: segments between places, put together. No program in it. -/
import Derived.Test.YtchladbjhodkoaaSpPlain
namespace Go.Proofs.Ytchladbjhodkoaa
namespace Sp

def cnd (how : Int) (x y : Bool) : Bool := if how = 1 then x && !y else if how = 2 then x && y else x || y

/-- a segment put to the end. -/
def addSeg (l : List S) (p q : Int) (is : Bool) : List S :=
  if is then (if l ≠ [] ∧ (l.getD (l.length - 1) (0, 0)).2 = p - 1 then l.set (l.length - 1) ((l.getD (l.length - 1) (0, 0)).1, q - 1) else l ++ [(p, q - 1)]) else l

def mixTo (how : Int) (a b : List S) (m : List Int) : Nat → List S
  | 0 => []
  | k + 1 => addSeg (mixTo how a b m k) (m.getD k 0) (m.getD (k + 1) 0) (cnd how (hasB a (m.getD k 0)) (hasB b (m.getD k 0)))

theorem mixTo_succ (how : Int) (a b : List S) (m : List Int) (k : Nat) : mixTo how a b m (k + 1) = addSeg (mixTo how a b m k) (m.getD k 0) (m.getD (k + 1) 0) (cnd how (hasB a (m.getD k 0)) (hasB b (m.getD k 0))) := rfl

def mixS (how : Int) (a b : List S) : List S := mixTo how a b (marksS (a ++ b)) ((marksS (a ++ b)).length - 1)

theorem hasB_append (l r : List S) (n : Int) : hasB (l ++ r) n = (hasB l n || hasB r n) := by
  unfold hasB; rw [List.any_append]

theorem inB_iff {n : Int} {s : S} (h0 : 0 ≤ n) (h1 : n < 16384) : inB n s = decide (s.1 ≤ n ∧ n ≤ s.2) := by
  unfold inB
  simp [h0, h1]

theorem addSeg_true_new {l : List S} {p q : Int} (h : ¬ (l ≠ [] ∧ (l.getD (l.length - 1) (0, 0)).2 = p - 1)) : addSeg l p q true = l ++ [(p, q - 1)] := by
  unfold addSeg; rw [if_pos rfl, if_neg h]

theorem addSeg_true_join {l : List S} {t : S} {p q : Int} (h : t.2 = p - 1) : addSeg (l ++ [t]) p q true = l ++ [(t.1, q - 1)] := by
  unfold addSeg
  have e : (l ++ [t]).getD ((l ++ [t]).length - 1) (0, 0) = t := by simp [List.getD]
  rw [if_pos rfl, e, if_pos ⟨by simp, h⟩]
  simp

theorem valid_snoc {l : List S} {t : S} : Valid (l ++ [t]) ↔ Valid l ∧ 0 ≤ t.1 ∧ t.1 ≤ t.2 ∧ t.2 < 16384 ∧ ∀ s ∈ l, s.2 + 1 < t.1 := by
  unfold Valid
  rw [List.pairwise_append]
  constructor
  · rintro ⟨h1, h2, _, h3⟩
    have := h1 t (by simp)
    exact ⟨⟨fun s hs => h1 s (by simp [hs]), h2⟩, this.1, this.2.1, this.2.2, fun s hs => h3 s hs t (by simp)⟩
  · rintro ⟨⟨h1, h2⟩, h3, h4, h5, h6⟩
    refine ⟨fun s hs => ?_, h2, by simp, fun s hs u hu => ?_⟩
    · rcases List.mem_append.1 hs with h | h
      · exact h1 s h
      · rw [List.mem_singleton.1 h]; exact ⟨h3, h4, h5⟩
    · rw [List.mem_singleton.1 hu]; exact h6 s hs

theorem addSeg_spec {l : List S} {p q : Int} (hv : Valid l) (hp : ∀ s ∈ l, s.2 ≤ p - 1) (h0 : 0 ≤ p) (h1 : p < q) (h2 : q ≤ 16384) :
    Valid (addSeg l p q true) ∧ (∀ s ∈ addSeg l p q true, s.2 ≤ q - 1) ∧ ∀ n, 0 ≤ n → n < 16384 → hasB (addSeg l p q true) n = (hasB l n || decide (p ≤ n ∧ n < q)) := by
  by_cases hj : l ≠ [] ∧ (l.getD (l.length - 1) (0, 0)).2 = p - 1
  · obtain ⟨hne, hj⟩ := hj
    obtain ⟨l', t, rfl⟩ : ∃ l' t, l = l' ++ [t] := ⟨l.dropLast, l.getLast hne, (List.dropLast_concat_getLast hne).symm⟩
    have e : (l' ++ [t]).getD ((l' ++ [t]).length - 1) (0, 0) = t := by simp [List.getD]
    rw [e] at hj
    obtain ⟨hv', a1, a2, a3, a4⟩ := valid_snoc.1 hv
    rw [addSeg_true_join hj]
    refine ⟨valid_snoc.2 ⟨hv', a1, ?_, ?_, a4⟩, ?_, ?_⟩
    · show t.1 ≤ q - 1; omega
    · show q - 1 < 16384; omega
    · intro s hs
      rcases List.mem_append.1 hs with h | h
      · have := hp s (by simp [h]); omega
      · rw [List.mem_singleton.1 h]; exact Int.le_refl _
    · intro n g0 g1
      rw [hasB_append, hasB_append]
      have : ∀ s : S, hasB [s] n = inB n s := by intro s; simp [hasB]
      rw [this, this, inB_iff g0 g1, inB_iff g0 g1, Bool.or_assoc]
      congr 1
      rw [Bool.eq_iff_iff]; simp; omega
  · rw [addSeg_true_new hj]
    refine ⟨valid_snoc.2 ⟨hv, h0, ?_, ?_, ?_⟩, ?_, ?_⟩
    · show p ≤ q - 1; omega
    · show q - 1 < 16384; omega
    · intro s hs
      have h3 := hp s hs
      show s.2 + 1 < p
      by_cases he : s.2 = p - 1
      · exfalso
        apply hj
        have hne : l ≠ [] := List.ne_nil_of_mem hs
        refine ⟨hne, ?_⟩
        obtain ⟨l', t, rfl⟩ : ∃ l' t, l = l' ++ [t] := ⟨l.dropLast, l.getLast hne, (List.dropLast_concat_getLast hne).symm⟩
        have e : (l' ++ [t]).getD ((l' ++ [t]).length - 1) (0, 0) = t := by simp [List.getD]
        rw [e]
        obtain ⟨hv', a1, a2, a3, a4⟩ := valid_snoc.1 hv
        rcases List.mem_append.1 hs with h | h
        · have := a4 s h
          have := hp t (by simp)
          omega
        · rw [← List.mem_singleton.1 h]; exact he
      · omega
    · intro s hs
      rcases List.mem_append.1 hs with h | h
      · have := hp s h; omega
      · rw [List.mem_singleton.1 h]; exact Int.le_refl _
    · intro n g0 g1
      rw [hasB_append]
      have : ∀ s : S, hasB [s] n = inB n s := by intro s; simp [hasB]
      rw [this, inB_iff g0 g1]
      congr 1
      rw [Bool.eq_iff_iff]; simp; omega

/-- between two places a list says all or nothing. -/
theorem hasB_seg {a l : List S} (hsub : ∀ s ∈ a, s ∈ l) {k : Nat} (hk : k + 1 < (marksS l).length) {n : Int} (h1 : (marksS l).getD k 0 ≤ n) (h2 : n < (marksS l).getD (k + 1) 0) :
    hasB a n = hasB a ((marksS l).getD k 0) := by
  have hs := marksS_sorted l
  have e1 : (marksS l).getD k 0 = (marksS l)[k] := by
    have : k < (marksS l).length := by omega
    simp [List.getD, this]
  have e2 : (marksS l).getD (k + 1) 0 = (marksS l)[k + 1] := by simp [List.getD, hk]
  have r1 := marksS_range (l := l) (x := (marksS l)[k]) (List.getElem_mem _)
  have r2 := marksS_range (l := l) (x := (marksS l)[k + 1]) (List.getElem_mem _)
  have gap : ∀ x, x ∈ marksS l → ¬ ((marksS l)[k] < x ∧ x < (marksS l)[k + 1]) := by
    intro x hx hc
    obtain ⟨j, hj, rfl⟩ := List.mem_iff_getElem.1 hx
    have hp := List.pairwise_iff_getElem.1 hs
    by_cases hjk : j ≤ k
    · by_cases he : j = k
      · subst he; omega
      · have := hp j k hj (by omega) (by omega); omega
    · by_cases he : j = k + 1
      · subst he; omega
      · have := hp (k + 1) j (by omega) hj (by omega); omega
  rw [e1] at h1 ⊢
  rw [e2] at h2
  rw [Bool.eq_iff_iff, hasB_iff, hasB_iff]
  constructor
  · rintro ⟨g0, g1, s, hsm, g2, g3⟩
    refine ⟨by omega, by omega, s, hsm, ?_, by omega⟩
    refine Int.not_lt.1 fun hlt => ?_
    refine gap s.1 (marksS_mem.2 (.inr (.inr ⟨s, hsub s hsm, by omega, by omega, by omega, .inl rfl⟩))) ⟨hlt, by omega⟩
  · rintro ⟨g0, g1, s, hsm, g2, g3⟩
    refine ⟨by omega, by omega, s, hsm, by omega, ?_⟩
    refine Int.not_lt.1 fun hlt => ?_
    refine gap (s.2 + 1) (marksS_mem.2 (.inr (.inr ⟨s, hsub s hsm, by omega, by omega, by omega, .inr ⟨by omega, rfl⟩⟩))) ⟨by omega, by omega⟩

theorem marksS_first (l : List S) : (marksS l).getD 0 0 = 0 := by
  have hs := marksS_sorted l
  have h0 : (0 : Int) ∈ marksS l := marksS_mem.2 (.inl rfl)
  cases hm : marksS l with
  | nil => rfl
  | cons x r =>
    rw [hm] at h0 hs
    have hx : x ∈ marksS l := by rw [hm]; simp
    have := marksS_range hx
    rcases List.mem_cons.1 h0 with h | h
    · simp [List.getD, h]
    · have := (List.pairwise_cons.1 hs).1 0 h
      omega

theorem marksS_last (l : List S) : (marksS l).getD ((marksS l).length - 1) 0 = 16384 := by
  have hs := marksS_sorted l
  have h0 : (16384 : Int) ∈ marksS l := marksS_mem.2 (.inr (.inl rfl))
  obtain ⟨j, hj, he⟩ := List.mem_iff_getElem.1 h0
  have hlast : (marksS l).length - 1 < (marksS l).length := by omega
  have e : (marksS l).getD ((marksS l).length - 1) 0 = (marksS l)[(marksS l).length - 1] := by simp [List.getD, hlast]
  have r := marksS_range (l := l) (x := (marksS l)[(marksS l).length - 1]) (List.getElem_mem _)
  rw [e]
  by_cases h : j = (marksS l).length - 1
  · subst h; exact he
  · have := List.pairwise_iff_getElem.1 hs j ((marksS l).length - 1) hj hlast (by omega)
    omega

theorem mixTo_spec (how : Int) (a b : List S) : ∀ k, k < (marksS (a ++ b)).length →
    Valid (mixTo how a b (marksS (a ++ b)) k) ∧ (∀ s ∈ mixTo how a b (marksS (a ++ b)) k, s.2 ≤ (marksS (a ++ b)).getD k 0 - 1) ∧
    ∀ n, 0 ≤ n → n < 16384 → hasB (mixTo how a b (marksS (a ++ b)) k) n = (decide (n < (marksS (a ++ b)).getD k 0) && cnd how (hasB a n) (hasB b n)) := by
  intro k
  induction k with
  | zero =>
    intro _
    rw [marksS_first]
    refine ⟨⟨by simp [mixTo], by simp [mixTo]⟩, by simp [mixTo], fun n h0 _ => ?_⟩
    have : decide (n < 0) = false := by simp; omega
    rw [this]; simp [mixTo, hasB]
  | succ k ih =>
    intro hk
    obtain ⟨i1, i2, i3⟩ := ih (by omega)
    have sa := @hasB_seg a (a ++ b) (fun s h => List.mem_append_left _ h) k hk
    have sb := @hasB_seg b (a ++ b) (fun s h => List.mem_append_right _ h) k hk
    have hlt : (marksS (a ++ b)).getD k 0 < (marksS (a ++ b)).getD (k + 1) 0 := by
      have := List.pairwise_iff_getElem.1 (marksS_sorted (a ++ b)) k (k + 1) (by omega) hk (by omega)
      have hk' : k < (marksS (a ++ b)).length := by omega
      simpa [List.getD, hk, hk'] using this
    have r1 : 0 ≤ (marksS (a ++ b)).getD k 0 := by
      have hk' : k < (marksS (a ++ b)).length := by omega
      have e : (marksS (a ++ b)).getD k 0 = (marksS (a ++ b))[k] := by simp [List.getD, hk']
      rw [e]; exact (marksS_range (List.getElem_mem _)).1
    have r2 : (marksS (a ++ b)).getD (k + 1) 0 ≤ 16384 := by
      have e : (marksS (a ++ b)).getD (k + 1) 0 = (marksS (a ++ b))[k + 1] := by simp [List.getD, hk]
      rw [e]; exact (marksS_range (List.getElem_mem _)).2
    simp only [mixTo]
    generalize mixTo how a b (marksS (a ++ b)) k = l at *
    generalize (marksS (a ++ b)).getD k 0 = p at *
    generalize (marksS (a ++ b)).getD (k + 1) 0 = q at *
    cases hc : cnd how (hasB a p) (hasB b p) with
    | true =>
      obtain ⟨j1, j2, j3⟩ := addSeg_spec i1 i2 r1 hlt r2
      refine ⟨j1, j2, fun n h0 h1 => ?_⟩
      rw [j3 n h0 h1, i3 n h0 h1]
      by_cases hp : p ≤ n ∧ n < q
      · rw [sa hp.1 hp.2, sb hp.1 hp.2, hc]
        have e1 : decide (n < q) = true := by simp; omega
        have e2 : decide (p ≤ n ∧ n < q) = true := by simp; omega
        rw [e1, e2]; simp
      · have e2 : decide (p ≤ n ∧ n < q) = false := by simp; omega
        rw [e2, Bool.or_false]
        congr 1
        rw [Bool.eq_iff_iff]; simp; omega
    | false =>
      have e : addSeg l p q false = l := by unfold addSeg; simp
      rw [e]
      refine ⟨i1, fun s hs => by have := i2 s hs; omega, fun n h0 h1 => ?_⟩
      rw [i3 n h0 h1]
      by_cases hp : p ≤ n ∧ n < q
      · rw [sa hp.1 hp.2, sb hp.1 hp.2, hc, Bool.and_false, Bool.and_false]
      · congr 1
        rw [Bool.eq_iff_iff]; simp; omega

/-- what Mix says, and that it may stand so. -/
theorem mixS_spec (how : Int) (a b : List S) : Valid (mixS how a b) ∧ ∀ n, hasB (mixS how a b) n = (decide (0 ≤ n ∧ n < 16384) && cnd how (hasB a n) (hasB b n)) := by
  have hl : 0 < (marksS (a ++ b)).length := List.length_pos_iff.2 (marksS_ne _)
  obtain ⟨h1, _, h3⟩ := mixTo_spec how a b ((marksS (a ++ b)).length - 1) (by omega)
  refine ⟨h1, fun n => ?_⟩
  by_cases hn : 0 ≤ n ∧ n < 16384
  · unfold mixS
    rw [h3 n hn.1 hn.2, marksS_last]
    have e1 : decide (n < 16384) = true := by simp; omega
    have e2 : decide (0 ≤ n ∧ n < 16384) = true := by simp; omega
    rw [e1, e2]
  · have e2 : decide (0 ≤ n ∧ n < 16384) = false := by simp; omega
    rw [e2, Bool.false_and]
    exact hasB_out (by omega)

theorem addSeg_len (l : List S) (p q : Int) (is : Bool) : (addSeg l p q is).length ≤ l.length + 1 := by
  unfold addSeg
  split
  · split <;> simp
  · omega

theorem mixTo_len (how : Int) (a b : List S) (m : List Int) : ∀ k, (mixTo how a b m k).length ≤ k
  | 0 => by simp [mixTo]
  | k + 1 => by
    have h1 := addSeg_len (mixTo how a b m k) (m.getD k 0) (m.getD (k + 1) 0) (cnd how (hasB a (m.getD k 0)) (hasB b (m.getD k 0)))
    have h2 := mixTo_len how a b m k
    rw [mixTo_succ]; omega

end Sp
end Go.Proofs.Ytchladbjhodkoaa
