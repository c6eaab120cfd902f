/- Spaces and effects, plainly: what effects make of a space whose keys ascend. No program in it. What the reference's Apply makes of lists in memory is what it makes of plain ones. The contract of the law's Make: a space by numbers (11). -/
import Derived.Test.YtihleddhjmejoaaMD05
import Derived.Test.YtihleddhjmejoaaMD24
import Derived.Test.YtihleddhjmejoaaMD25
namespace Go.Proofs.Ytihleddhjmejoaa
namespace Db

/-- the keys ascend. -/
def AscP (l : List P) : Prop := l.Pairwise fun p q => p.key < q.key
def ins (e : E) : List P := if e.gone then [] else [⟨e.key, e.it⟩]
def ltK (k : List UInt8) (p : P) : Bool := decide (p.key < k)
def neK (k : List UInt8) (p : P) : Bool := decide (p.key ≠ k)

theorem lt_irr (k : List UInt8) : ¬ k < k := List.lt_irrefl k
theorem lt_tr {a b c : List UInt8} (h : a < b) (h2 : b < c) : a < c := List.lt_trans h h2
theorem lt_ne {a b : List UInt8} (h : a < b) : a ≠ b := fun e => lt_irr b (e ▸ h)
theorem lt_tri {a b : List UInt8} (h : ¬ a < b) (h2 : a ≠ b) : b < a := by
  rcases List.le_total a b with h3 | h3
  · rcases Classical.em (b < a) with h4 | h4
    · exact h4
    · exact absurd (List.le_antisymm h3 (List.not_lt.1 h)) h2
  · rcases Classical.em (b < a) with h4 | h4
    · exact h4
    · exact absurd (List.le_antisymm (List.not_lt.1 h4) h3) h2

theorem fold_done (e : E) : ∀ (db : List P) (acc : List P), db.foldl (stepA e) (acc, true) = (acc ++ db.filter (neK e.key), true)
  | [], acc => by simp
  | p :: db, acc => by
    rw [List.foldl_cons]
    by_cases h : p.key = e.key
    · rw [show stepA e (acc, true) p = (acc, true) by simp [stepA, h], fold_done e db acc]
      simp [neK, h]
    · rw [show stepA e (acc, true) p = (acc ++ [p], true) by simp [stepA, h], fold_done e db _]
      simp [neK, h]
theorem fold_open (e : E) : ∀ (db : List P) (acc : List P), db.foldl (stepA e) (acc, false) =
    if db.dropWhile (ltK e.key) = [] then (acc ++ db, false) else (acc ++ (db.takeWhile (ltK e.key) ++ ⟨e.key, e.it⟩ :: (db.dropWhile (ltK e.key)).filter (neK e.key)), true)
  | [], acc => by simp
  | p :: db, acc => by
    rw [List.foldl_cons]
    by_cases hl : p.key < e.key
    · have h : p.key ≠ e.key := lt_ne hl
      rw [show stepA e (acc, false) p = (acc ++ [p], false) by simp [stepA, h, hl], fold_open e db _]
      simp [ltK, hl]
    · by_cases h : p.key = e.key
      · rw [show stepA e (acc, false) p = (acc ++ [⟨e.key, e.it⟩], true) by simp [stepA, h, lt_irr], fold_done]
        simp [ltK, h, neK, lt_irr]
      · rw [show stepA e (acc, false) p = (acc ++ [⟨e.key, e.it⟩] ++ [p], true) by simp [stepA, h, hl], fold_done]
        simp [ltK, hl, neK, h]
theorem take_ne (k : List UInt8) : ∀ db : List P, (db.takeWhile (ltK k)).filter (neK k) = db.takeWhile (ltK k)
  | [] => rfl
  | p :: db => by
    by_cases h : p.key < k
    · have h2 := lt_ne h
      simp only [List.takeWhile_cons, ltK, h, decide_true, if_true, List.filter_cons, neK, ne_eq, h2, not_false_eq_true]
      exact congrArg _ (take_ne k db)
    · simp [ltK, h]
theorem app1_form (db : List P) (e : E) : app1 db e = db.takeWhile (ltK e.key) ++ (ins e ++ (db.dropWhile (ltK e.key)).filter (neK e.key)) := by
  unfold app1 foldA ins
  cases hg : e.gone with
  | true =>
    rw [fold_done]
    simp only [List.nil_append, if_true]
    conv => lhs; rw [← List.takeWhile_append_dropWhile (p := ltK e.key) (l := db)]
    rw [List.filter_append, take_ne]
  | false =>
    rw [fold_open]
    by_cases h : db.dropWhile (ltK e.key) = []
    · have h2 : db.takeWhile (ltK e.key) = db := by
        have := List.takeWhile_append_dropWhile (p := ltK e.key) (l := db)
        rw [h, List.append_nil] at this
        exact this
      simp [h, h2]
    · simp [h]

theorem asc_take (k : List UInt8) : ∀ db : List P, AscP db → db.takeWhile (ltK k) = db.filter (ltK k) ∧ db.dropWhile (ltK k) = db.filter (fun p => !ltK k p)
  | [], _ => by simp
  | p :: db, h => by
    have h1 := List.pairwise_cons.1 h
    have ih := asc_take k db h1.2
    by_cases hl : p.key < k
    · simp [ltK, hl] at ih ⊢
      exact ih
    · have hall : ∀ q ∈ db, ¬ q.key < k := fun q hq hk => hl (lt_tr (h1.1 q hq) hk)
      simp only [List.takeWhile_cons, List.dropWhile_cons, ltK, hl, decide_false, List.filter_cons, Bool.not_false, if_true, Bool.false_eq_true, if_false]
      refine ⟨(List.filter_eq_nil_iff.2 fun q hq => by simp [ltK, hall q hq]).symm, congrArg _ (List.filter_eq_self.2 fun q hq => by simp [hall q hq]).symm⟩
theorem app1_asc_form {db : List P} (h : AscP db) (e : E) : app1 db e = db.filter (ltK e.key) ++ (ins e ++ (db.filter fun p => !ltK e.key p).filter (neK e.key)) := by
  rw [app1_form, (asc_take e.key db h).1, (asc_take e.key db h).2]
theorem ins_key {e : E} {p : P} (h : p ∈ ins e) : p = ⟨e.key, e.it⟩ ∧ e.gone = false := by
  unfold ins at h
  split at h
  · cases h
  · rename_i h2
    exact ⟨List.mem_singleton.1 h, by simpa using h2⟩
theorem mem_app1 {db : List P} (h : AscP db) (e : E) (p : P) : p ∈ app1 db e ↔ (p ∈ db ∧ p.key ≠ e.key) ∨ p ∈ ins e := by
  rw [app1_asc_form h]
  simp only [List.mem_append, List.mem_filter, ltK, neK, Bool.not_eq_true', decide_eq_true_eq, decide_eq_false_iff_not]
  constructor
  · rintro (⟨h1, h2⟩ | h1 | ⟨⟨h1, h2⟩, h3⟩)
    · exact .inl ⟨h1, lt_ne h2⟩
    · exact .inr h1
    · exact .inl ⟨h1, h3⟩
  · rintro (⟨h1, h2⟩ | h1)
    · by_cases h3 : p.key < e.key
      · exact .inl ⟨h1, h3⟩
      · exact .inr (.inr ⟨⟨h1, h3⟩, h2⟩)
    · exact .inr (.inl h1)
theorem app1_asc {db : List P} (h : AscP db) (e : E) : AscP (app1 db e) := by
  rw [app1_asc_form h]
  refine List.pairwise_append.2 ⟨h.filter _, List.pairwise_append.2 ⟨?_, (h.filter _).filter _, ?_⟩, ?_⟩
  · unfold ins
    split <;> simp
  · intro p hp q hq
    rw [(ins_key hp).1]
    simp only [List.mem_filter, ltK, neK, Bool.not_eq_true', decide_eq_true_eq, decide_eq_false_iff_not] at hq
    exact lt_tri hq.1.2 hq.2
  · intro p hp q hq
    simp only [List.mem_filter, ltK, decide_eq_true_eq] at hp
    rcases List.mem_append.1 hq with hq | hq
    · rw [(ins_key hq).1]; exact hp.2
    · simp only [List.mem_filter, ltK, neK, Bool.not_eq_true', decide_eq_true_eq, decide_eq_false_iff_not] at hq
      exact lt_tr hp.2 (lt_tri hq.1.2 hq.2)
theorem app_asc {db : List P} (h : AscP db) : ∀ es : List E, AscP (app db es) := fun es => by
  unfold app
  induction es generalizing db with
  | nil => exact h
  | cons e es ih => exact ih (app1_asc h e)

theorem asc_uniq {l : List P} (h : AscP l) {p q : P} (hp : p ∈ l) (hq : q ∈ l) (e : p.key = q.key) : p = q := by
  induction l with
  | nil => cases hp
  | cons a l ih =>
    have h1 := List.pairwise_cons.1 h
    rcases List.mem_cons.1 hp with e1 | hp2
    · rcases List.mem_cons.1 hq with e2 | hq2
      · rw [e1, e2]
      · rw [e1] at e
        exact absurd e (lt_ne (h1.1 q hq2))
    · rcases List.mem_cons.1 hq with e2 | hq2
      · rw [e2] at e
        exact absurd e.symm (lt_ne (h1.1 p hp2))
      · exact ih h1.2 hp2 hq2
theorem mem_raw {l : List P} (h : AscP l) (k : List UInt8) (i : It.I) : raw l k = some i ↔ (⟨k, i⟩ : P) ∈ l := by
  unfold raw
  constructor
  · intro hr
    obtain ⟨p, hp, hi⟩ := Option.map_eq_some_iff.1 hr
    have h1 := List.mem_of_find?_eq_some hp
    have h2 := List.find?_some hp
    simp only [decide_eq_true_eq] at h2
    obtain ⟨pk, pi⟩ := p
    simp only at h2 hi
    subst h2 hi
    exact h1
  · intro hm
    cases hf : l.find? fun p => decide (p.key = k) with
    | none =>
      have := List.find?_eq_none.1 hf _ hm
      simp at this
    | some q =>
      have h1 := List.mem_of_find?_eq_some hf
      have h2 := List.find?_some hf
      simp only [decide_eq_true_eq] at h2
      rw [asc_uniq h h1 hm h2]
      rfl
theorem raw_app1 {db : List P} (h : AscP db) (e : E) (k : List UInt8) : raw (app1 db e) k = if e.key = k then (if e.gone then none else some e.it) else raw db k := by
  refine Option.ext fun i => ?_
  rw [mem_raw (app1_asc h e), mem_app1 h]
  by_cases hk : e.key = k
  · subst hk
    simp only [ne_eq, not_true_eq_false, and_false, false_or, if_true]
    unfold ins
    cases e.gone with
    | true => simp
    | false => simp [eq_comm]
  · rw [if_neg hk, mem_raw h]
    constructor
    · rintro (h1 | h1)
      · exact h1.1
      · have := (ins_key h1).1
        injection this with h2
        exact absurd h2.symm hk
    · exact fun h1 => .inl ⟨h1, Ne.symm hk⟩
/-- the last effect on a key. -/
def lastE (es : List E) (k : List UInt8) : Option E := es.reverse.find? fun e => decide (e.key = k)
def seen (o : Option E) (r : Option It.I) : Option It.I := match o with | some e => if e.gone then none else some e.it | none => r
theorem raw_appR {db : List P} (h : AscP db) (k : List UInt8) : ∀ es : List E, raw (app db es.reverse) k = seen (es.find? fun e => decide (e.key = k)) (raw db k)
  | [] => rfl
  | e :: es => by
    rw [List.reverse_cons, app_snoc, raw_app1 (app_asc h _), List.find?_cons, raw_appR h k es]
    by_cases hk : e.key = k
    · simp [hk, seen]
    · simp [hk]
theorem raw_app {db : List P} (h : AscP db) (es : List E) (k : List UInt8) : raw (app db es) k = seen (lastE es k) (raw db k) := by
  have := raw_appR h k es.reverse
  rw [List.reverse_reverse] at this
  exact this
theorem asc_ext {l m : List P} (hl : AscP l) (hm : AscP m) (h : ∀ k, raw l k = raw m k) : l = m := by
  have hnd : ∀ {l : List P}, AscP l → l.Nodup := fun {l} h => List.Pairwise.imp (R := fun (p q : P) => p.key < q.key) (S := fun p q => p ≠ q) (fun {a b} (hab : a.key < b.key) (e : a = b) => lt_irr b.key (by rw [e] at hab; exact hab)) h
  have hp : l.Perm m := (List.perm_ext_iff_of_nodup (hnd hl) (hnd hm)).2 fun p => by
    rw [← mem_raw hl p.key p.it, ← mem_raw hm p.key p.it, h]
  exact List.Perm.eq_of_pairwise (le := fun (p q : P) => p.key < q.key) (fun (a b : P) _ _ (h1 : a.key < b.key) (h2 : b.key < a.key) => absurd (lt_tr h1 h2) (lt_irr _)) hl hm hp
/-- effects with the same last ones make the same. -/
theorem app_same {db : List P} (h : AscP db) {es fs : List E} (hl : ∀ k, lastE es k = lastE fs k) : app db es = app db fs :=
  asc_ext (app_asc h _) (app_asc h _) fun k => by rw [raw_app h, raw_app h, hl]
/-- pairs ahead of an effect's key stay. -/
theorem app1_behind {l db : List P} {e : E} (h : ∀ p ∈ l, p.key < e.key) : app1 (l ++ db) e = l ++ app1 db e := by
  have h1 : (l ++ db).takeWhile (ltK e.key) = l ++ db.takeWhile (ltK e.key) := List.takeWhile_append_of_pos fun p hp => by simp [ltK, h p hp]
  have h2 : (l ++ db).dropWhile (ltK e.key) = db.dropWhile (ltK e.key) := List.dropWhile_append_of_pos fun p hp => by simp [ltK, h p hp]
  rw [app1_form, app1_form, h1, h2, List.append_assoc]
/-- a place is found: one effect. -/
theorem app1_at {db : List P} (h : AscP db) {e : E} {k : Nat} {b : Bool} (hk : k ≤ db.length) (h1 : ∀ j, j < k → (db.getD j P.zero).key < e.key) (h2 : ∀ j, k ≤ j → j < db.length → ¬ (db.getD j P.zero).key < e.key) (hb : b = true ↔ k < db.length ∧ (db.getD k P.zero).key = e.key) :
    app1 db e = db.take k ++ (ins e ++ if b then (db.drop k).drop 1 else db.drop k) := by
  have gd : ∀ (l : List P) (j : Nat) (hj : j < l.length), l.getD j P.zero = l[j] := fun l j hj => by simp [List.getD, hj]
  have hall : ∀ p ∈ db.take k, ltK e.key p = true := fun p hp => by
    obtain ⟨j, hj, rfl⟩ := List.getElem_of_mem hp
    rw [List.length_take] at hj
    have := h1 j (by omega)
    rw [gd db j (by omega)] at this
    simpa [ltK] using this
  have d1 : (db.drop k).takeWhile (ltK e.key) = [] ∧ (db.drop k).dropWhile (ltK e.key) = db.drop k := by
    cases hd : db.drop k with
    | nil => simp
    | cons p r =>
      have hkl : k < db.length := by
        rcases Nat.lt_or_ge k db.length with h' | h'
        · exact h'
        · rw [List.drop_eq_nil_of_le h'] at hd; cases hd
      have hp : p = db[k] := by
        have := List.drop_eq_getElem_cons hkl
        rw [hd] at this
        exact (List.cons.inj this).1
      have hn := h2 k (Nat.le_refl _) hkl
      rw [gd db k hkl, ← hp] at hn
      simp [ltK, hn]
  have e1 : db.takeWhile (ltK e.key) = db.take k ∧ db.dropWhile (ltK e.key) = db.drop k := by
    have h3 := List.takeWhile_append_of_pos (p := ltK e.key) (l₁ := db.take k) (l₂ := db.drop k) hall
    have h4 := List.dropWhile_append_of_pos (p := ltK e.key) (l₁ := db.take k) (l₂ := db.drop k) hall
    rw [List.take_append_drop] at h3 h4
    rw [d1.1, List.append_nil] at h3
    exact ⟨h3, h4.trans d1.2⟩
  rw [app1_form, e1.1, e1.2]
  congr 2
  have hds : AscP (db.drop k) := List.Pairwise.sublist (List.drop_sublist k db) h
  cases hbb : b with
  | true =>
    obtain ⟨hkl, hke⟩ := hb.1 hbb
    rw [gd db k hkl] at hke
    rw [if_pos rfl]
    rw [List.drop_eq_getElem_cons hkl] at hds ⊢
    rw [List.filter_cons, show neK e.key db[k] = false by simp [neK, hke]]
    simp only [Bool.false_eq_true, if_false, List.drop_succ_cons, List.drop_zero]
    refine List.filter_eq_self.2 fun p hp => ?_
    have := lt_ne ((List.pairwise_cons.1 hds).1 p hp)
    rw [hke] at this
    simp [neK, Ne.symm this]
  | false =>
    rw [if_neg (by simp)]
    refine List.filter_eq_self.2 fun p hp => ?_
    obtain ⟨j, hj, rfl⟩ := List.getElem_of_mem hp
    rw [List.length_drop] at hj
    rw [List.getElem_drop]
    have hne : db[k + j].key ≠ e.key := fun he => by
      rcases Nat.eq_zero_or_pos j with rfl | hj0
      · have := hb.2 ⟨by omega, by rw [gd db k (by omega)]; exact he⟩
        rw [hbb] at this
        cases this
      · have h5 := h2 k (Nat.le_refl _) (by omega)
        rw [gd db k (by omega)] at h5
        exact h5 (he ▸ List.pairwise_iff_getElem.1 h k (k + j) (by omega) (by omega) (by omega))
    simp [neK, hne]
end Db
end Go.Proofs.Ytihleddhjmejoaa
namespace Go.Proofs.Ytihleddhjmejoaa
set_option linter.unusedVariables false
set_option linter.unusedSimpArgs false

theorem stepL_p (e : Le) (st : List Lp × Bool) (p : Lp) : ((stepL e st p).1.map Lp.p, (stepL e st p).2) = Db.stepA e.e (st.1.map Lp.p, st.2) p.p := by
  unfold stepL Db.stepA
  show _ = (if p.key = e.key then _ else _, _)
  by_cases h1 : (!st.2 && !decide (p.key < e.key)) = true
  · have h2 : (!st.2 && !decide (p.p.key < e.e.key)) = true := h1
    simp only [h1, h2, if_true]
    by_cases h : p.key = e.key <;> simp [h] <;> rfl
  · have h2 : ¬ (!st.2 && !decide (p.p.key < e.e.key)) = true := h1
    simp only [h1, h2, if_false]
    by_cases h : p.key = e.key <;> simp [h]
theorem foldL_p (e : Le) : ∀ (ps : List Lp) (st : List Lp × Bool), ((ps.foldl (stepL e) st).1.map Lp.p, (ps.foldl (stepL e) st).2) = (ps.map Lp.p).foldl (Db.stepA e.e) (st.1.map Lp.p, st.2)
  | [], _ => rfl
  | p :: ps, st => by
    rw [List.foldl_cons, List.map_cons, List.foldl_cons, ← stepL_p, ← foldL_p e ps]
theorem app1L_p (ps : List Lp) (e : Le) : (app1L ps e).map Lp.p = Db.app1 (ps.map Lp.p) e.e := by
  have h := foldL_p e ps ([], e.gone)
  have h1 := congrArg Prod.fst h
  have h2 := congrArg Prod.snd h
  unfold app1L Db.app1 foldL Db.foldA
  simp only [List.map_nil] at h1 h2
  show _ = if _ = true then _ else _
  rw [show e.e.gone = e.gone from rfl, ← h1, ← h2]
  split
  · rfl
  · rw [List.map_append]; rfl
theorem appL_p (ps : List Lp) (es : List Le) : (appL ps es).map Lp.p = Db.app (ps.map Lp.p) (es.map Le.e) := by
  unfold appL Db.app
  induction es generalizing ps with
  | nil => rfl
  | cons e es ih => rw [List.foldl_cons, List.map_cons, List.foldl_cons, ih, app1L_p]
end Go.Proofs.Ytihleddhjmejoaa
namespace Go.Proofs.Ytihleddhjmejoaa
open Go.RowKit Go.Shelf
attribute [local go_sem] Oper.semAt_some
set_option linter.unusedVariables false
set_option linter.unusedSimpArgs false

/-- the space by numbers. -/
def numE (ns : List UInt8) : List Db.E := effsT ns (min 40 (ns.length / 4))
def numDb (ns : List UInt8) : List Db.P := Db.app [] (numE ns)
theorem effT_key (ns : List UInt8) (i : Nat) : (effT ns i).key.length ≤ 4 := keyT_len _
theorem effT_may (ns : List UInt8) (i : Nat) (h : (effT ns i).gone = false) : It.mayB (effT ns i).it = true := by
  have hx := (ns.getD (i + 2) 0).toNat_lt
  have hg : decide ((ns.getD (i + 1) 0).toNat % 4 = 0) = false := h
  show It.mayB (if decide ((ns.getD (i + 1) 0).toNat % 4 = 0) = true then _ else _) = true
  rw [hg]
  exact make_may _ _ (by omega) (by omega)
theorem effT_sm (ns : List UInt8) (i : Nat) : (effT ns i).Sm := by
  refine ⟨by have := effT_key ns i; omega, ?_⟩
  cases h : (effT ns i).gone with
  | true =>
    have hg : decide ((ns.getD (i + 1) 0).toNat % 4 = 0) = true := h
    show It.I.Sm (if decide ((ns.getD (i + 1) 0).toNat % 4 = 0) = true then _ else _)
    rw [hg, if_pos rfl]
    exact ⟨by decide, by decide, by decide, by simp, by simp⟩
  | false => exact may_sm (effT_may ns i h)
theorem numE_mem {ns : List UInt8} {e : Db.E} (h : e ∈ numE ns) : ∃ i, e = effT ns i := by
  obtain ⟨j, -, rfl⟩ := List.mem_map.1 h
  exact ⟨_, rfl⟩
theorem numE_sm {ns : List UInt8} : ∀ e ∈ numE ns, e.Sm := fun e h => by
  obtain ⟨i, rfl⟩ := numE_mem h
  exact effT_sm ns i
theorem numE_len (ns : List UInt8) : (numE ns).length ≤ 40 := by unfold numE effsT; simp; omega
theorem app_mem {db : List Db.P} (h : Db.AscP db) (es : List Db.E) : ∀ p ∈ Db.app db es, p ∈ db ∨ ∃ e ∈ es, e.gone = false ∧ p = ⟨e.key, e.it⟩ := by
  unfold Db.app
  induction es generalizing db with
  | nil => exact fun p hp => .inl hp
  | cons e es ih =>
    intro p hp
    rcases ih (Db.app1_asc h e) p hp with h1 | ⟨e', h1, h2⟩
    · rcases (Db.mem_app1 h e p).1 h1 with h1 | h1
      · exact .inl h1.1
      · exact .inr ⟨e, List.mem_cons_self .., (Db.ins_key h1).2, (Db.ins_key h1).1⟩
    · exact .inr ⟨e', List.mem_cons_of_mem _ h1, h2⟩
theorem asc_nil : Db.AscP [] := List.Pairwise.nil
/-- a pair is as the law's numbers make it. -/
def Gd (p : Db.P) : Prop := p.key.length ≤ 4 ∧ It.mayB p.it = true
theorem Gd.sm {p : Db.P} (h : Gd p) : p.Sm := ⟨by have := h.1; omega, may_sm h.2⟩
theorem app_gd {db : List Db.P} (h : Db.AscP db) (hg : ∀ p ∈ db, Gd p) (ns : List UInt8) : ∀ p ∈ Db.app db (numE ns), Gd p := fun p hp => by
  rcases app_mem h _ p hp with h1 | ⟨e, h1, h2, rfl⟩
  · exact hg p h1
  · obtain ⟨i, rfl⟩ := numE_mem h1
    exact ⟨effT_key ns i, effT_may ns i h2⟩
theorem numDb_asc (ns : List UInt8) : Db.AscP (numDb ns) := Db.app_asc asc_nil _
theorem numDb_gd (ns : List UInt8) : ∀ p ∈ numDb ns, Gd p := app_gd asc_nil (by simp) ns
theorem app1_len (db : List Db.P) (e : Db.E) : (Db.app1 db e).length ≤ db.length + 1 := by
  rw [Db.app1_form, List.length_append, List.length_append]
  have h1 : (Db.ins e).length ≤ 1 := by unfold Db.ins; split <;> simp
  have h2 := List.length_filter_le (Db.neK e.key) (db.dropWhile (Db.ltK e.key))
  have h3 := congrArg List.length (List.takeWhile_append_dropWhile (p := Db.ltK e.key) (l := db))
  rw [List.length_append] at h3
  omega
theorem app_len (es : List Db.E) : ∀ db : List Db.P, (Db.app db es).length ≤ db.length + es.length := by
  unfold Db.app
  induction es with
  | nil => intro db; simp
  | cons e es ih =>
    intro db
    have h1 := ih (Db.app1 db e)
    have h2 := app1_len db e
    rw [List.foldl_cons, List.length_cons]
    omega
theorem numDb_len (ns : List UInt8) : (numDb ns).length ≤ 40 := by
  have h1 := app_len (numE ns) []
  have h2 := numE_len ns
  unfold numDb
  simp at h1
  omega

/-- a space that a call hands back. -/
def DbOut (qs : List Db.P) (w : World) (e : Ending) (W : World) : Prop := ∃ a cap ps, e = .returned (.slice a ps.length cap) ∧ Prs W a cap ps ∧ (a = none → cap = 0) ∧ ps.map Lp.p = qs ∧ Below w.heap.size w W
def EfOut (qs : List Db.E) (w : World) (e : Ending) (W : World) : Prop := ∃ a cap es, e = .returned (.slice a es.length cap) ∧ Efs W a cap es ∧ (a = none → cap = 0) ∧ es.map Le.e = qs ∧ Below w.heap.size w W
theorem efs_any (p : Option Addr) (cap : Nat) (ns : List UInt8) (w : World) (hB : Bytes w p ns) (hl : ns.length ≤ cap) (hc : ns.length ≤ 1000) :
    Calls Try.prog 25 #[.slice p ns.length cap] w (EfOut (numE ns) w) := by
  refine (effects_any p cap ns w hB hl hc).mono ?_
  rintro e W ⟨u, out, rfl, hm, hr⟩
  obtain ⟨a, c, rfl, he, hn⟩ := hr.efs
  exact ⟨a, c, out, rfl, he, hn, hm, hr.2.1⟩
theorem refApply_any (a : Option Addr) (cap : Nat) (ps : List Lp) (b : Option Addr) (cb : Nat) (es : List Le) (w : World) (hP : Prs w a cap ps) (hE : Efs w b cb es) (hn : ps.length ≤ 100000) (hm : es.length ≤ 100000) (ha : a = none → cap = 0) :
    Calls Try.prog 33 #[.slice a ps.length cap, .slice b es.length cb] w (DbOut (Db.app (ps.map Lp.p) (es.map Le.e)) w) := by
  refine (applyAll_any a cap ps b cb es w hP hE hn hm ha).mono ?_
  rintro e W ⟨u, rfl, hr⟩
  obtain ⟨a2, c2, rfl, hp, hn⟩ := hr.prs
  exact ⟨a2, c2, _, rfl, hp, hn, appL_p ps es, hr.2.1⟩

-- left out: spcMake_any
end Go.Proofs.Ytihleddhjmejoaa
