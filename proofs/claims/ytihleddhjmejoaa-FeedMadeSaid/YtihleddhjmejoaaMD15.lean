/- Items by numbers: what the statements' own Make makes, and that it is valid. No program in it. -/
import Derived.Test.YtihleddhjmejoaaMD01
import Derived.Test.YtihleddhjmejoaaMD06
namespace Go.Proofs.Ytihleddhjmejoaa
namespace Mk
open It

abbrev F := List UInt8 × List UInt8

/-- a field is set: one round. -/
def stepH (n v : List UInt8) (st : List F × Bool) (x : F) : List F × Bool :=
  let st' := if !st.2 && !decide (x.1 < n) then (st.1 ++ [(n, v)], true) else st
  (if x.1 = n then st'.1 else st'.1 ++ [x], st'.2)
def foldH (n v : List UInt8) (l : List F) : List F × Bool := l.foldl (stepH n v) ([], false)
def hset (l : List F) (n v : List UInt8) : List F := if (foldH n v l).2 then (foldH n v l).1 else (foldH n v l).1 ++ [(n, v)]

theorem foldH_snoc (n v : List UInt8) (l : List F) (x : F) : foldH n v (l ++ [x]) = stepH n v (foldH n v l) x := by simp [foldH, List.foldl_append]
theorem stepH_len (n v : List UInt8) (st : List F × Bool) (x : F) : (stepH n v st x).1.length ≤ st.1.length + 2 := by
  unfold stepH
  split <;> split <;> simp <;> omega

/-- a text is added. -/
def hasB (l : List (List UInt8)) (s : List UInt8) : Bool := l.any fun t => t == s
def lowS : List (List UInt8) → List UInt8 → Nat
  | [], _ => 0
  | t :: r, s => if t < s then lowS r s + 1 else 0
theorem low_le (l : List (List UInt8)) (s : List UInt8) : lowS l s ≤ l.length := by
  induction l with
  | nil => exact Nat.le_refl _
  | cons t r ih => unfold lowS; split <;> simp <;> omega
theorem low_lt {l : List (List UInt8)} {s : List UInt8} {j : Nat} (h : j < lowS l s) : l.getD j [] < s := by
  induction l generalizing j with
  | nil => simp [lowS] at h
  | cons t r ih =>
    unfold lowS at h
    split at h
    · cases j with
      | zero => simpa using ‹t < s›
      | succ j => simpa using ih (by omega)
    · omega
theorem low_at {l : List (List UInt8)} {s : List UInt8} (h : lowS l s < l.length) : ¬ l.getD (lowS l s) [] < s := by
  induction l with
  | nil => simp at h
  | cons t r ih =>
    unfold lowS at h ⊢
    split
    · rename_i ht
      rw [if_pos ht] at h
      simpa using ih (by simpa using h)
    · rename_i ht
      simpa using ht
theorem low_eq {l : List (List UInt8)} {s : List UInt8} {k : Nat} (hk : k ≤ l.length) (h1 : ∀ j, j < k → l.getD j [] < s) (h2 : k = l.length ∨ ¬ l.getD k [] < s) : lowS l s = k := by
  rcases Nat.lt_trichotomy (lowS l s) k with h | h | h
  · exact absurd (h1 _ h) (low_at (by omega))
  · exact h
  · have := low_le l s
    rcases h2 with h2 | h2
    · omega
    · exact absurd (low_lt h) h2
def sadd (l : List (List UInt8)) (s : List UInt8) : List (List UInt8) := if hasB l s then l else l.take (lowS l s) ++ [s] ++ l.drop (lowS l s)

def upF (l : List F) : Prop := l.Pairwise fun a b => a.1 < b.1
def upS (l : List (List UInt8)) : Prop := l.Pairwise fun a b => a < b

theorem ris_of_up {l : List (List UInt8)} (h : upS l) : risB l = true := by
  rw [risB_iff]
  intro k hk h0
  rw [getD_eq hk, getD_eq (by omega)]
  exact List.pairwise_iff_getElem.1 h (k - 1) k (by omega) hk (by omega)
theorem ris_of_upF {l : List F} (h : upF l) : risB (l.map (·.1)) = true := ris_of_up (by unfold upS; rw [List.pairwise_map]; exact h)

theorem lt_of_not {a b : List UInt8} (h : ¬ a < b) (hn : a ≠ b) : b < a := by
  have := not_lt b a
  rw [decide_eq_false h] at this
  simp only [Bool.not_false, Bool.or_eq_true, decide_eq_true_eq, beq_iff_eq] at this
  rcases this with h' | h'
  · exact h'
  · exact absurd h'.symm hn
theorem lt_ne {a b : List UInt8} (h : a < b) : a ≠ b := fun e => List.lt_irrefl b (e ▸ h)
theorem lt_tr {a b c : List UInt8} (h : a < b) (k : b < c) : a < c := List.lt_trans h k

theorem upF_snoc {l : List F} {x : F} (h : upF l) (hx : ∀ y ∈ l, y.1 < x.1) : upF (l ++ [x]) := by
  unfold upF
  rw [List.pairwise_append]
  exact ⟨h, List.pairwise_singleton _ _, fun a ha b hb => by rw [List.mem_singleton.1 hb]; exact hx a ha⟩

/-- what the rounds have made of fields that rise. -/
def RoundH (n v : List UInt8) (l : List F) : Prop :=
  upF (foldH n v l).1 ∧ (∀ y ∈ (foldH n v l).1, y = (n, v) ∨ y ∈ l) ∧
    ((foldH n v l).2 = true → ∃ x ∈ l, ¬ x.1 < n) ∧ ((foldH n v l).2 = false → (∀ y ∈ (foldH n v l).1, y.1 < n) ∧ ∀ x ∈ l, x.1 < n)

theorem round_H (n v : List UInt8) (l : List F) (h : upF l) : RoundH n v l := by
  suffices H : ∀ m, m ≤ l.length → RoundH n v (l.take m) by simpa using H l.length (Nat.le_refl _)
  intro m
  induction m with
  | zero =>
    intro _
    refine ⟨?_, ?_, ?_, ?_⟩ <;> simp [foldH, upF]
  | succ m ih =>
    intro hm
    obtain ⟨i1, i2, i3, i4⟩ := ih (by omega)
    have e : l.take (m + 1) = l.take m ++ [l[m]] := (List.take_append_getElem (by omega)).symm
    have hup : ∀ y ∈ l.take m, y.1 < (l[m]).1 := by
      intro y hy
      obtain ⟨j, hj, rfl⟩ := List.mem_take_iff_getElem.1 hy
      exact List.pairwise_iff_getElem.1 h j m (by omega) (by omega) (by omega)
    rw [e]
    generalize l[m] = x at hup
    generalize l.take m = l' at *
    unfold RoundH
    rw [foldH_snoc]
    clear e ih hm h
    obtain ⟨st, hst⟩ : ∃ st, foldH n v l' = st := ⟨_, rfl⟩
    rw [hst] at i1 i2 i3 i4 ⊢
    obtain ⟨out, b⟩ := st
    simp only at i1 i2 i3 i4
    clear hst
    have sub : ∀ y ∈ out, y = (n, v) ∨ y ∈ l' ++ [x] := fun y hy => (i2 y hy).imp id (fun h => List.mem_append_left _ h)
    have subn : ∀ y ∈ out ++ [(n, v)], y = (n, v) ∨ y ∈ l' ++ [x] := fun y hy => by
      rcases List.mem_append.1 hy with hy | hy
      · exact sub y hy
      · exact .inl (List.mem_singleton.1 hy)
    have subx : ∀ {o : List F}, (∀ y ∈ o, y = (n, v) ∨ y ∈ l' ++ [x]) → ∀ y ∈ o ++ [x], y = (n, v) ∨ y ∈ l' ++ [x] := fun ho y hy => by
      rcases List.mem_append.1 hy with hy | hy
      · exact ho y hy
      · exact .inr (List.mem_append_right _ hy)
    cases b with
    | true =>
      obtain ⟨z, hz, hzn⟩ := i3 rfl
      have hnx : n < x.1 := by
        by_cases hzz : z.1 = n
        · exact hzz ▸ hup z hz
        · exact lt_tr (lt_of_not hzn hzz) (hup z hz)
      have e : stepH n v (out, true) x = (out ++ [x], true) := by simp [stepH, (lt_ne hnx).symm]
      rw [e]
      refine ⟨upF_snoc i1 fun y hy => ?_, subx sub, fun _ => ⟨z, List.mem_append_left _ hz, hzn⟩, fun h => by cases h⟩
      rcases i2 y hy with rfl | hy
      · exact hnx
      · exact hup y hy
    | false =>
      obtain ⟨i5, i6⟩ := i4 rfl
      have hox : ∀ y ∈ out, y.1 < x.1 := fun y hy => by
        rcases i2 y hy with rfl | hy
        · exact absurd (i5 _ hy) (List.lt_irrefl _)
        · exact hup y hy
      by_cases hx : x.1 < n
      · have e : stepH n v (out, false) x = (out ++ [x], false) := by simp [stepH, hx, lt_ne hx]
        rw [e]
        refine ⟨upF_snoc i1 hox, subx sub, (fun h => by cases h), fun _ => ⟨?_, ?_⟩⟩
        · intro y hy
          rcases List.mem_append.1 hy with hy | hy
          · exact i5 y hy
          · rw [List.mem_singleton.1 hy]; exact hx
        · intro y hy
          rcases List.mem_append.1 hy with hy | hy
          · exact i6 y hy
          · rw [List.mem_singleton.1 hy]; exact hx
      · have hi : ∃ y ∈ l' ++ [x], ¬ y.1 < n := ⟨x, by simp, hx⟩
        have u1 : upF (out ++ [(n, v)]) := upF_snoc i1 i5
        by_cases hxn : x.1 = n
        · have e : stepH n v (out, false) x = (out ++ [(n, v)], true) := by simp [stepH, hxn, List.lt_irrefl]
          rw [e]
          exact ⟨u1, subn, fun _ => hi, fun h => by cases h⟩
        · have e : stepH n v (out, false) x = (out ++ [(n, v)] ++ [x], true) := by simp [stepH, hxn, hx]
          rw [e]
          refine ⟨upF_snoc u1 fun y hy => ?_, subx subn, fun _ => hi, fun h => by cases h⟩
          rcases List.mem_append.1 hy with hy | hy
          · exact hox y hy
          · rw [List.mem_singleton.1 hy]; exact lt_of_not hx hxn

theorem hset_up (n v : List UInt8) (l : List F) (h : upF l) : upF (hset l n v) ∧ ∀ y ∈ hset l n v, y = (n, v) ∨ y ∈ l := by
  obtain ⟨i1, i2, i3, i4⟩ := round_H n v l h
  unfold hset
  cases hb : (foldH n v l).2 with
  | true => rw [if_pos rfl]; exact ⟨i1, i2⟩
  | false =>
    rw [if_neg (by simp)]
    refine ⟨upF_snoc i1 (i4 hb).1, fun y hy => ?_⟩
    rcases List.mem_append.1 hy with hy | hy
    · exact i2 y hy
    · exact .inl (List.mem_singleton.1 hy)
theorem foldH_len (n v : List UInt8) (l : List F) : (foldH n v l).1.length + (if (foldH n v l).2 then 0 else 1) ≤ l.length + 1 := by
  suffices H : ∀ m, m ≤ l.length → (foldH n v (l.take m)).1.length + (if (foldH n v (l.take m)).2 then 0 else 1) ≤ m + 1 by simpa using H l.length (Nat.le_refl _)
  intro m
  induction m with
  | zero => intro _; simp [foldH]
  | succ m ih =>
    intro hm
    have e : l.take (m + 1) = l.take m ++ [l[m]] := (List.take_append_getElem (by omega)).symm
    have := ih (by omega)
    rw [e, foldH_snoc]
    generalize foldH n v (l.take m) = st at *
    obtain ⟨out, b⟩ := st
    cases b <;> by_cases h1 : (l[m]).1 < n <;> by_cases h2 : (l[m]).1 = n <;> simp [stepH, h1, h2] at this ⊢ <;> omega
theorem hset_len (n v : List UInt8) (l : List F) : (hset l n v).length ≤ l.length + 1 := by
  have := foldH_len n v l
  unfold hset
  cases h : (foldH n v l).2 <;> simp [h] at this ⊢ <;> omega
theorem hset_pos (n v : List UInt8) (l : List F) : 0 < (hset l n v).length ∨ (foldH n v l).2 = true := by
  unfold hset
  cases h : (foldH n v l).2
  · left; simp
  · right; rfl

theorem sadd_up (l : List (List UInt8)) (s : List UInt8) (h : upS l) : upS (sadd l s) ∧ (∀ t ∈ sadd l s, t = s ∨ t ∈ l) ∧ (sadd l s).length ≤ l.length + 1 := by
  unfold sadd
  split
  · exact ⟨h, fun t ht => .inr ht, by omega⟩
  · rename_i hs
    have hno : ∀ t ∈ l, t ≠ s := fun t ht e => hs (by unfold hasB; rw [List.any_eq_true]; exact ⟨t, ht, by simp [e]⟩)
    have hle := low_le l s
    have h1 : ∀ t ∈ l.take (lowS l s), t < s := by
      intro t ht
      obtain ⟨j, hj, rfl⟩ := List.mem_take_iff_getElem.1 ht
      have := low_lt (l := l) (s := s) (j := j) (by omega)
      rwa [getD_eq (by omega)] at this
    have h2 : ∀ t ∈ l.drop (lowS l s), s < t := by
      intro t ht
      obtain ⟨j, hj, rfl⟩ := List.mem_drop_iff_getElem.1 ht
      have hk : lowS l s < l.length := by omega
      have hf : ¬ l[lowS l s] < s := by
        have := low_at hk
        rwa [getD_eq hk] at this
      have h0 : s < l[lowS l s] := lt_of_not hf (hno _ (List.getElem_mem hk))
      rcases Nat.eq_zero_or_pos j with rfl | hj0
      · simpa using h0
      · exact lt_tr h0 (List.pairwise_iff_getElem.1 h (lowS l s) (lowS l s + j) hk (by omega) (by omega))
    refine ⟨?_, fun t ht => ?_, ?_⟩
    · unfold upS
      rw [List.pairwise_append, List.pairwise_append]
      refine ⟨⟨h.sublist (List.take_sublist _ _), List.pairwise_singleton _ _, fun a ha b hb => ?_⟩, h.sublist (List.drop_sublist _ _), fun a ha b hb => ?_⟩
      · rw [List.mem_singleton.1 hb]; exact h1 a ha
      · rcases List.mem_append.1 ha with ha | ha
        · exact lt_tr (h1 a ha) (h2 b hb)
        · rw [List.mem_singleton.1 ha]; exact h2 b hb
    · simp only [List.mem_append, List.mem_singleton] at ht
      rcases ht with (ht | ht) | ht
      · exact .inr (List.mem_of_mem_take ht)
      · exact .inl ht
      · exact .inr (List.mem_of_mem_drop ht)
    · simp; omega
end Mk
end Go.Proofs.Ytihleddhjmejoaa
