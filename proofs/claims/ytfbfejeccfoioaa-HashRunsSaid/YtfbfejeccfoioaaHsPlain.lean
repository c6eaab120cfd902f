/- Hashes as plain data: what Set, Del, Get make and tell. No program in it. -/
import Derived.Test.YtfbfejeccfoioaaItMakePlain
namespace Go.Proofs.Ytfbfejeccfoioaa
namespace Hs
open It Mk

abbrev K := List UInt8
/-- without the fields of that name. -/
def del (l : List F) (n : K) : List F := l.filter fun x => !decide (x.1 = n)
/-- with one more, ahead of the first greater name. -/
def ins (n v : K) : List F → List F
  | [] => [(n, v)]
  | x :: l => if n < x.1 then (n, v) :: x :: l else x :: ins n v l
def set (l : List F) (n v : K) : List F := ins n v (del l n)
def get : List F → K → Option K
  | [], _ => none
  | x :: l, n => if x.1 = n then some x.2 else get l n

theorem get_ins (n v : K) : ∀ (l : List F), (∀ x ∈ l, x.1 ≠ n) → ∀ k, get (ins n v l) k = if k = n then some v else get l k
  | [], _, k => by
    simp only [ins, get]
    by_cases h : n = k
    · simp [h]
    · rw [if_neg h, if_neg fun e => h e.symm]
  | x :: l, hx, k => by
    have hx0 := hx x (by simp)
    have ih := get_ins n v l (fun y hy => hx y (by simp [hy])) k
    unfold ins
    split
    · have e : get ((n, v) :: x :: l) k = if n = k then some v else get (x :: l) k := rfl
      rw [e]
      by_cases h : n = k
      · simp [h]
      · rw [if_neg h, if_neg fun e => h e.symm]
    · simp only [get]
      rw [ih]
      by_cases h : x.1 = k
      · rw [if_pos h, if_pos h, if_neg fun e => hx0 (h.trans e)]
      · rw [if_neg h, if_neg h]

theorem del_ne (l : List F) (n : K) : ∀ x ∈ del l n, x.1 ≠ n := by
  intro x hx
  unfold del at hx
  simpa using (List.mem_filter.1 hx).2

theorem get_del (n : K) : ∀ (l : List F) (k : K), get (del l n) k = if k = n then none else get l k
  | [], k => by simp [del, get]
  | x :: l, k => by
    have ih := get_del n l k
    unfold del at ih ⊢
    rw [List.filter_cons]
    by_cases h : x.1 = n
    · rw [if_neg (by simp [h]), ih]
      simp only [get]
      by_cases hk : k = n
      · rw [if_pos hk, if_pos hk]
      · rw [if_neg hk, if_neg hk, if_neg fun e => hk (e.symm.trans h)]
    · rw [if_pos (by simp [h])]
      simp only [get]
      rw [ih]
      by_cases hk : x.1 = k
      · rw [if_pos hk, if_pos hk, if_neg fun e => h (hk.trans e)]
      · rw [if_neg hk, if_neg hk]

theorem get_set (l : List F) (n v k : K) : get (set l n v) k = if k = n then some v else get l k := by
  unfold set
  rw [get_ins n v _ (del_ne l n), get_del]
  by_cases h : k = n
  · rw [if_pos h, if_pos h]
  · rw [if_neg h, if_neg h, if_neg h]

theorem ins_len (n v : K) : ∀ l : List F, (ins n v l).length = l.length + 1
  | [] => rfl
  | x :: l => by
    unfold ins
    split
    · simp
    · simp [ins_len n v l]
theorem del_le (l : List F) (n : K) : (del l n).length ≤ l.length := List.length_filter_le _ _
theorem set_len (l : List F) (n v : K) : (set l n v).length = (del l n).length + 1 := ins_len n v _
theorem set_le (l : List F) (n v : K) : (set l n v).length ≤ l.length + 1 := by
  rw [set_len]
  have := del_le l n
  omega

theorem del_of_none (n : K) : ∀ l : List F, get l n = none → del l n = l
  | [], _ => rfl
  | x :: l, h => by
    simp only [get] at h
    by_cases hx : x.1 = n
    · rw [if_pos hx] at h; cases h
    · rw [if_neg hx] at h
      have ih := del_of_none n l h
      unfold del at ih ⊢
      rw [List.filter_cons, if_pos (by simp [hx]), ih]

theorem get_none_of_lt {n : K} : ∀ {l : List F}, (∀ x ∈ l, n < x.1) → get l n = none
  | [], _ => rfl
  | x :: l, h => by
    simp only [get]
    rw [if_neg fun e => lt_ne (h x (by simp)) e.symm]
    exact get_none_of_lt fun y hy => h y (by simp [hy])

theorem del_len (n : K) : ∀ l : List F, upF l → (del l n).length = if (get l n).isSome then l.length - 1 else l.length
  | [], _ => rfl
  | x :: l, h => by
    obtain ⟨h1, h2⟩ := List.pairwise_cons.1 h
    have ih := del_len n l h2
    by_cases hx : x.1 = n
    · have hg : get (x :: l) n = some x.2 := by simp [get, hx]
      have hd : del (x :: l) n = l := by
        have := del_of_none n l (get_none_of_lt fun y hy => hx ▸ h1 y hy)
        unfold del at this ⊢
        rw [List.filter_cons, if_neg (by simp [hx]), this]
      rw [hg, hd]
      simp
    · have hg : get (x :: l) n = get l n := by simp [get, hx]
      have hd : (del (x :: l) n).length = (del l n).length + 1 := by
        unfold del
        rw [List.filter_cons, if_pos (by simp [hx])]
        simp
      rw [hg, hd, ih]
      split
      · rename_i hs
        have : l ≠ [] := by rintro rfl; simp [get] at hs
        have := List.length_pos_iff.2 this
        simp
        omega
      · simp

theorem del_up {l : List F} (n : K) (h : upF l) : upF (del l n) := h.sublist List.filter_sublist
theorem ins_mem (n v : K) : ∀ (l : List F) (x : F), x ∈ ins n v l ↔ x = (n, v) ∨ x ∈ l
  | [], x => by simp [ins]
  | y :: l, x => by
    unfold ins
    split
    · simp
    · rw [List.mem_cons, ins_mem n v l x, List.mem_cons]
      constructor
      · rintro (h | h | h)
        · exact .inr (.inl h)
        · exact .inl h
        · exact .inr (.inr h)
      · rintro (h | h | h)
        · exact .inr (.inl h)
        · exact .inl h
        · exact .inr (.inr h)
theorem ins_up (n v : K) : ∀ (l : List F), upF l → (∀ x ∈ l, x.1 ≠ n) → upF (ins n v l)
  | [], _, _ => List.pairwise_singleton _ _
  | x :: l, h, hn => by
    obtain ⟨h1, h2⟩ := List.pairwise_cons.1 h
    unfold ins
    split
    · rename_i hlt
      refine List.pairwise_cons.2 ⟨fun y hy => ?_, h⟩
      rcases List.mem_cons.1 hy with rfl | hy
      · exact hlt
      · exact lt_tr hlt (h1 y hy)
    · rename_i hlt
      refine List.pairwise_cons.2 ⟨fun y hy => ?_, ins_up n v l h2 fun y hy => hn y (by simp [hy])⟩
      rcases (ins_mem n v l y).1 hy with rfl | hy
      · exact lt_of_not hlt fun e => hn x (by simp) e.symm
      · exact h1 y hy
theorem set_up {l : List F} (n v : K) (h : upF l) : upF (set l n v) := ins_up n v _ (del_up n h) (del_ne l n)
theorem set_mem {l : List F} {n v : K} {x : F} (h : x ∈ set l n v) : x = (n, v) ∨ x ∈ l := by
  rcases (ins_mem n v _ x).1 h with h | h
  · exact .inl h
  · exact .inr (List.mem_filter.1 h).1
theorem del_mem {l : List F} {n : K} {x : F} (h : x ∈ del l n) : x ∈ l := (List.mem_filter.1 h).1

/-- two that rise and tell the same are one. -/
theorem ext : ∀ {l m : List F}, upF l → upF m → (∀ k, get l k = get m k) → l = m
  | [], [], _, _, _ => rfl
  | [], y :: m, _, _, h => by have := h y.1; simp [get] at this
  | x :: l, [], _, _, h => by have := h x.1; simp [get] at this
  | x :: l, y :: m, hl, hm, h => by
    obtain ⟨l1, l2⟩ := List.pairwise_cons.1 hl
    obtain ⟨m1, m2⟩ := List.pairwise_cons.1 hm
    have e : x.1 = y.1 := by
      by_cases he : x.1 = y.1
      · exact he
      · exfalso
        by_cases hlt : x.1 < y.1
        · have h1 := h x.1
          rw [get_none_of_lt (l := y :: m) (n := x.1) fun z hz => by
            rcases List.mem_cons.1 hz with rfl | hz
            · exact hlt
            · exact lt_tr hlt (m1 z hz)] at h1
          simp [get] at h1
        · have hlt' := lt_of_not hlt he
          have h1 := h y.1
          rw [get_none_of_lt (l := x :: l) (n := y.1) fun z hz => by
            rcases List.mem_cons.1 hz with rfl | hz
            · exact hlt'
            · exact lt_tr hlt' (l1 z hz)] at h1
          simp [get] at h1
    have h0 := h x.1
    unfold get at h0
    rw [if_pos rfl, if_pos e.symm] at h0
    have hxy : x = y := Prod.ext e (Option.some.inj h0)
    subst hxy
    congr 1
    refine ext l2 m2 fun k => ?_
    have hk := h k
    simp only [get] at hk
    by_cases hk0 : x.1 = k
    · subst hk0
      rw [get_none_of_lt l1, get_none_of_lt m1]
    · rwa [if_neg hk0, if_neg hk0] at hk

/-- one round of 'with'. -/
def stepW (n v : K) (st : List F × Bool) (x : F) : List F × Bool :=
  if !st.2 && decide (n < x.1) then (st.1 ++ [(n, v)] ++ [x], true) else (st.1 ++ [x], st.2)
def foldW (n v : K) (l : List F) : List F × Bool := l.foldl (stepW n v) ([], false)
def endW (n v : K) (l : List F) : List F := if (foldW n v l).2 then (foldW n v l).1 else (foldW n v l).1 ++ [(n, v)]
theorem foldW_nil (n v : K) : foldW n v [] = ([], false) := rfl
theorem foldW_snoc (n v : K) (l : List F) (x : F) : foldW n v (l ++ [x]) = stepW n v (foldW n v l) x := by simp [foldW, List.foldl_append]
theorem foldW_true (n v : K) : ∀ (l acc : List F), l.foldl (stepW n v) (acc, true) = (acc ++ l, true)
  | [], acc => by simp
  | x :: l, acc => by
    rw [List.foldl_cons, show stepW n v (acc, true) x = (acc ++ [x], true) by simp [stepW], foldW_true n v l]
    simp
theorem foldW_false (n v : K) : ∀ (l acc : List F), (let st := l.foldl (stepW n v) (acc, false); if st.2 then st.1 else st.1 ++ [(n, v)]) = acc ++ ins n v l
  | [], acc => by simp [ins]
  | x :: l, acc => by
    by_cases h : n < x.1
    · rw [List.foldl_cons, show stepW n v (acc, false) x = (acc ++ [(n, v)] ++ [x], true) by simp [stepW, h], foldW_true]
      simp [ins, h]
    · rw [List.foldl_cons, show stepW n v (acc, false) x = (acc ++ [x], false) by simp [stepW, h], foldW_false n v l]
      simp [ins, h]
theorem endW_eq (n v : K) (l : List F) : endW n v l = ins n v l := by
  have := foldW_false n v l []
  rw [List.nil_append] at this
  exact this
theorem foldW_len (n v : K) (l : List F) : (foldW n v l).1.length = l.length + (if (foldW n v l).2 then 1 else 0) := by
  suffices H : ∀ m, m ≤ l.length → (foldW n v (l.take m)).1.length = m + (if (foldW n v (l.take m)).2 then 1 else 0) by simpa using H l.length (Nat.le_refl _)
  intro m
  induction m with
  | zero => intro _; simp [foldW]
  | succ m ih =>
    intro hm
    have e : l.take (m + 1) = l.take m ++ [l[m]] := (List.take_append_getElem (by omega)).symm
    have := ih (by omega)
    rw [e, foldW_snoc]
    generalize foldW n v (l.take m) = st at *
    obtain ⟨out, b⟩ := st
    cases b <;> by_cases h1 : n < (l[m]).1 <;> simp [stepW, h1] at this ⊢ <;> omega

/-- the reference's HSet is the same where the names rise. -/
theorem foldH_true (n v : K) : ∀ (l acc : List F), l.foldl (stepH n v) (acc, true) = (acc ++ del l n, true)
  | [], acc => by simp [del]
  | x :: l, acc => by
    by_cases h : x.1 = n
    · rw [List.foldl_cons, show stepH n v (acc, true) x = (acc, true) by simp [stepH, h], foldH_true n v l]
      simp [del, h]
    · rw [List.foldl_cons, show stepH n v (acc, true) x = (acc ++ [x], true) by simp [stepH, h], foldH_true n v l]
      simp [del, h]
theorem ins_front (n v : K) : ∀ l : List F, (∀ x ∈ l, n < x.1) → ins n v l = (n, v) :: l
  | [], _ => rfl
  | x :: l, h => by simp [ins, h x (by simp)]
theorem foldH_false (n v : K) : ∀ (l acc : List F), upF l → (let st := l.foldl (stepH n v) (acc, false); if st.2 then st.1 else st.1 ++ [(n, v)]) = acc ++ set l n v
  | [], acc, _ => by simp [set, del, ins]
  | x :: l, acc, hu => by
    obtain ⟨h1, h2⟩ := List.pairwise_cons.1 hu
    by_cases h : x.1 < n
    · have hne := lt_ne h
      rw [List.foldl_cons, show stepH n v (acc, false) x = (acc ++ [x], false) by simp [stepH, h, hne], foldH_false n v l _ h2]
      have hl : ¬ n < x.1 := fun e => List.lt_asymm h e
      simp [set, del, hne, ins, hl]
    · by_cases he : x.1 = n
      · rw [List.foldl_cons, show stepH n v (acc, false) x = (acc ++ [(n, v)], true) by simp [stepH, he, List.lt_irrefl], foldH_true]
        have hd : del (x :: l) n = del l n := by simp [del, he]
        simp only [if_pos]
        unfold set
        rw [hd, ins_front n v _ fun y hy => he ▸ h1 y (del_mem hy)]
        simp
      · have hlt := lt_of_not h he
        rw [List.foldl_cons, show stepH n v (acc, false) x = (acc ++ [(n, v)] ++ [x], true) by simp [stepH, he, h], foldH_true]
        simp [set, del, he, ins, hlt]
theorem hset_eq (n v : K) {l : List F} (h : upF l) : Mk.hset l n v = set l n v := by
  have := foldH_false n v l [] h
  rw [List.nil_append] at this
  exact this

/-- are fields by rising names, not too many, nor too long? -/
def okAt (l : List F) (k : Nat) : Bool := decide (k ≤ 100) && decide ((l.getD k ([], [])).1.length ≤ 300) && decide ((l.getD k ([], [])).2.length ≤ 300) && (k == 0 || decide ((l.getD (k - 1) ([], [])).1 < (l.getD k ([], [])).1))
def risF (l : List F) : Bool := (List.range l.length).all (okAt l)
theorem risF_iff (l : List F) : risF l = true ↔ ∀ k, k < l.length → okAt l k = true := by simp [risF]
theorem risF_up {l : List F} (h : risF l = true) : upF l ∧ l.length ≤ 101 ∧ ∀ x ∈ l, x.1.length ≤ 300 ∧ x.2.length ≤ 300 := by
  rw [risF_iff] at h
  have hk : ∀ k (hk : k < l.length), k ≤ 100 ∧ l[k].1.length ≤ 300 ∧ l[k].2.length ≤ 300 ∧ (k = 0 ∨ (l.getD (k - 1) ([], [])).1 < l[k].1) := by
    intro k hk
    have := h k hk
    unfold okAt at this
    rw [getD_eq hk] at this
    simp only [Bool.and_eq_true, decide_eq_true_eq, Bool.or_eq_true, beq_iff_eq] at this
    exact ⟨this.1.1.1, this.1.1.2, this.1.2, this.2⟩
  refine ⟨?_, ?_, fun x hx => ?_⟩
  · unfold upF
    have step : ∀ d i (hi : i + d + 1 < l.length), l[i].1 < l[i + d + 1].1 := by
      intro d
      induction d with
      | zero =>
        intro i hi
        have := (hk (i + 1) hi).2.2.2.resolve_left (by omega)
        rwa [Nat.add_sub_cancel, getD_eq (by omega)] at this
      | succ d ih =>
        intro i hi
        have h1 := ih i (by omega)
        have h2 := (hk (i + (d + 1) + 1) hi).2.2.2.resolve_left (by omega)
        rw [Nat.add_sub_cancel, getD_eq (by omega)] at h2
        exact lt_tr h1 h2
    rw [List.pairwise_iff_getElem]
    intro i j hi hj hij
    obtain ⟨d, rfl⟩ : ∃ d, j = i + d + 1 := ⟨j - i - 1, by omega⟩
    exact step d i hj
  · by_cases h0 : l.length ≤ 101
    · exact h0
    · have := (hk 101 (by omega)).1
      omega
  · obtain ⟨k, hk', rfl⟩ := List.mem_iff_getElem.1 hx
    exact ⟨(hk k hk').2.1, (hk k hk').2.2.1⟩
theorem risF_of {l : List F} (h : upF l) (h1 : l.length ≤ 101) (h2 : ∀ x ∈ l, x.1.length ≤ 300 ∧ x.2.length ≤ 300) : risF l = true := by
  rw [risF_iff]
  intro k hk
  have hx := h2 _ (List.getElem_mem hk)
  unfold okAt
  rw [getD_eq hk]
  simp only [Bool.and_eq_true, decide_eq_true_eq, Bool.or_eq_true, beq_iff_eq]
  refine ⟨⟨⟨by omega, hx.1⟩, hx.2⟩, ?_⟩
  by_cases h0 : k = 0
  · exact .inl h0
  · right
    rw [getD_eq (by omega)]
    exact List.pairwise_iff_getElem.1 h (k - 1) k (by omega) hk (by omega)
end Hs
end Go.Proofs.Ytfbfejeccfoioaa
