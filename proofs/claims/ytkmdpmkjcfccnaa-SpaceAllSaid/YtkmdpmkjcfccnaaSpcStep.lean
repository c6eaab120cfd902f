/- Spaces and effects, plainly: what effects make of a space whose keys ascend. No program in it. A map of effects by their keys; its keys, sorted (11.1). What the program's Apply makes, key by key; the sorted keys of its map, and what it holds (11.1). -/
import Derived.Test.YtkmdpmkjcfccnaaDbBase
import Derived.Test.YtkmdpmkjcfccnaaSpcFind
import Derived.Test.YtkmdpmkjcfccnaaShelfI
import Derived.Test.YtkmdpmkjcfccnaaDbApplyAll
import Derived.Maps.OwnIn
import Derived.Maps.Views
import Derived.Sort.KeysCollected
namespace Go.Proofs.Ytkmdpmkjcfccnaa
namespace Db

/-- the keys ascend. -/
def AscP (l : List P) : Prop := l.Pairwise fun p q => p.key < q.key
def ins (e : E) : List P := if e.gone then [] else [⟨e.key, e.it⟩]
def ltK (k : List UInt8) (p : P) : Bool := decide (p.key < k)
def neK (k : List UInt8) (p : P) : Bool := decide (p.key ≠ k)

theorem lt_irr (k : List UInt8) : ¬ k < k := List.lt_irrefl k
theorem lt_tr {a b c : List UInt8} (h : a < b) (h2 : b < c) : a < c := List.lt_trans h h2
theorem lt_ne {a b : List UInt8} (h : a < b) : a ≠ b := fun e => lt_irr b (e ▸ h)
theorem lt_tri {a b : List UInt8} (h : ¬ a < b) (h2 : a ≠ b) : b < a := by
  rcases List.le_total a b with h3 | h3
  · rcases Classical.em (b < a) with h4 | h4
    · exact h4
    · exact absurd (List.le_antisymm h3 (List.not_lt.1 h)) h2
  · rcases Classical.em (b < a) with h4 | h4
    · exact h4
    · exact absurd (List.le_antisymm (List.not_lt.1 h4) h3) h2

theorem fold_done (e : E) : ∀ (db : List P) (acc : List P), db.foldl (stepA e) (acc, true) = (acc ++ db.filter (neK e.key), true)
  | [], acc => by simp
  | p :: db, acc => by
    rw [List.foldl_cons]
    by_cases h : p.key = e.key
    · rw [show stepA e (acc, true) p = (acc, true) by simp [stepA, h], fold_done e db acc]
      simp [neK, h]
    · rw [show stepA e (acc, true) p = (acc ++ [p], true) by simp [stepA, h], fold_done e db _]
      simp [neK, h]
theorem fold_open (e : E) : ∀ (db : List P) (acc : List P), db.foldl (stepA e) (acc, false) =
    if db.dropWhile (ltK e.key) = [] then (acc ++ db, false) else (acc ++ (db.takeWhile (ltK e.key) ++ ⟨e.key, e.it⟩ :: (db.dropWhile (ltK e.key)).filter (neK e.key)), true)
  | [], acc => by simp
  | p :: db, acc => by
    rw [List.foldl_cons]
    by_cases hl : p.key < e.key
    · have h : p.key ≠ e.key := lt_ne hl
      rw [show stepA e (acc, false) p = (acc ++ [p], false) by simp [stepA, h, hl], fold_open e db _]
      simp [ltK, hl]
    · by_cases h : p.key = e.key
      · rw [show stepA e (acc, false) p = (acc ++ [⟨e.key, e.it⟩], true) by simp [stepA, h, lt_irr], fold_done]
        simp [ltK, h, neK, lt_irr]
      · rw [show stepA e (acc, false) p = (acc ++ [⟨e.key, e.it⟩] ++ [p], true) by simp [stepA, h, hl], fold_done]
        simp [ltK, hl, neK, h]
theorem take_ne (k : List UInt8) : ∀ db : List P, (db.takeWhile (ltK k)).filter (neK k) = db.takeWhile (ltK k)
  | [] => rfl
  | p :: db => by
    by_cases h : p.key < k
    · have h2 := lt_ne h
      simp only [List.takeWhile_cons, ltK, h, decide_true, if_true, List.filter_cons, neK, ne_eq, h2, not_false_eq_true]
      exact congrArg _ (take_ne k db)
    · simp [ltK, h]
theorem app1_form (db : List P) (e : E) : app1 db e = db.takeWhile (ltK e.key) ++ (ins e ++ (db.dropWhile (ltK e.key)).filter (neK e.key)) := by
  unfold app1 foldA ins
  cases hg : e.gone with
  | true =>
    rw [fold_done]
    simp only [List.nil_append, if_true]
    conv => lhs; rw [← List.takeWhile_append_dropWhile (p := ltK e.key) (l := db)]
    rw [List.filter_append, take_ne]
  | false =>
    rw [fold_open]
    by_cases h : db.dropWhile (ltK e.key) = []
    · have h2 : db.takeWhile (ltK e.key) = db := by
        have := List.takeWhile_append_dropWhile (p := ltK e.key) (l := db)
        rw [h, List.append_nil] at this
        exact this
      simp [h, h2]
    · simp [h]

theorem asc_take (k : List UInt8) : ∀ db : List P, AscP db → db.takeWhile (ltK k) = db.filter (ltK k) ∧ db.dropWhile (ltK k) = db.filter (fun p => !ltK k p)
  | [], _ => by simp
  | p :: db, h => by
    have h1 := List.pairwise_cons.1 h
    have ih := asc_take k db h1.2
    by_cases hl : p.key < k
    · simp [ltK, hl] at ih ⊢
      exact ih
    · have hall : ∀ q ∈ db, ¬ q.key < k := fun q hq hk => hl (lt_tr (h1.1 q hq) hk)
      simp only [List.takeWhile_cons, List.dropWhile_cons, ltK, hl, decide_false, List.filter_cons, Bool.not_false, if_true, Bool.false_eq_true, if_false]
      refine ⟨(List.filter_eq_nil_iff.2 fun q hq => by simp [ltK, hall q hq]).symm, congrArg _ (List.filter_eq_self.2 fun q hq => by simp [hall q hq]).symm⟩
theorem app1_asc_form {db : List P} (h : AscP db) (e : E) : app1 db e = db.filter (ltK e.key) ++ (ins e ++ (db.filter fun p => !ltK e.key p).filter (neK e.key)) := by
  rw [app1_form, (asc_take e.key db h).1, (asc_take e.key db h).2]
theorem ins_key {e : E} {p : P} (h : p ∈ ins e) : p = ⟨e.key, e.it⟩ ∧ e.gone = false := by
  unfold ins at h
  split at h
  · cases h
  · rename_i h2
    exact ⟨List.mem_singleton.1 h, by simpa using h2⟩
theorem mem_app1 {db : List P} (h : AscP db) (e : E) (p : P) : p ∈ app1 db e ↔ (p ∈ db ∧ p.key ≠ e.key) ∨ p ∈ ins e := by
  rw [app1_asc_form h]
  simp only [List.mem_append, List.mem_filter, ltK, neK, Bool.not_eq_true', decide_eq_true_eq, decide_eq_false_iff_not]
  constructor
  · rintro (⟨h1, h2⟩ | h1 | ⟨⟨h1, h2⟩, h3⟩)
    · exact .inl ⟨h1, lt_ne h2⟩
    · exact .inr h1
    · exact .inl ⟨h1, h3⟩
  · rintro (⟨h1, h2⟩ | h1)
    · by_cases h3 : p.key < e.key
      · exact .inl ⟨h1, h3⟩
      · exact .inr (.inr ⟨⟨h1, h3⟩, h2⟩)
    · exact .inr (.inl h1)
theorem app1_asc {db : List P} (h : AscP db) (e : E) : AscP (app1 db e) := by
  rw [app1_asc_form h]
  refine List.pairwise_append.2 ⟨h.filter _, List.pairwise_append.2 ⟨?_, (h.filter _).filter _, ?_⟩, ?_⟩
  · unfold ins
    split <;> simp
  · intro p hp q hq
    rw [(ins_key hp).1]
    simp only [List.mem_filter, ltK, neK, Bool.not_eq_true', decide_eq_true_eq, decide_eq_false_iff_not] at hq
    exact lt_tri hq.1.2 hq.2
  · intro p hp q hq
    simp only [List.mem_filter, ltK, decide_eq_true_eq] at hp
    rcases List.mem_append.1 hq with hq | hq
    · rw [(ins_key hq).1]; exact hp.2
    · simp only [List.mem_filter, ltK, neK, Bool.not_eq_true', decide_eq_true_eq, decide_eq_false_iff_not] at hq
      exact lt_tr hp.2 (lt_tri hq.1.2 hq.2)
theorem app_asc {db : List P} (h : AscP db) : ∀ es : List E, AscP (app db es) := fun es => by
  unfold app
  induction es generalizing db with
  | nil => exact h
  | cons e es ih => exact ih (app1_asc h e)

theorem asc_uniq {l : List P} (h : AscP l) {p q : P} (hp : p ∈ l) (hq : q ∈ l) (e : p.key = q.key) : p = q := by
  induction l with
  | nil => cases hp
  | cons a l ih =>
    have h1 := List.pairwise_cons.1 h
    rcases List.mem_cons.1 hp with e1 | hp2
    · rcases List.mem_cons.1 hq with e2 | hq2
      · rw [e1, e2]
      · rw [e1] at e
        exact absurd e (lt_ne (h1.1 q hq2))
    · rcases List.mem_cons.1 hq with e2 | hq2
      · rw [e2] at e
        exact absurd e.symm (lt_ne (h1.1 p hp2))
      · exact ih h1.2 hp2 hq2
theorem mem_raw {l : List P} (h : AscP l) (k : List UInt8) (i : It.I) : raw l k = some i ↔ (⟨k, i⟩ : P) ∈ l := by
  unfold raw
  constructor
  · intro hr
    obtain ⟨p, hp, hi⟩ := Option.map_eq_some_iff.1 hr
    have h1 := List.mem_of_find?_eq_some hp
    have h2 := List.find?_some hp
    simp only [decide_eq_true_eq] at h2
    obtain ⟨pk, pi⟩ := p
    simp only at h2 hi
    subst h2 hi
    exact h1
  · intro hm
    cases hf : l.find? fun p => decide (p.key = k) with
    | none =>
      have := List.find?_eq_none.1 hf _ hm
      simp at this
    | some q =>
      have h1 := List.mem_of_find?_eq_some hf
      have h2 := List.find?_some hf
      simp only [decide_eq_true_eq] at h2
      rw [asc_uniq h h1 hm h2]
      rfl
theorem raw_app1 {db : List P} (h : AscP db) (e : E) (k : List UInt8) : raw (app1 db e) k = if e.key = k then (if e.gone then none else some e.it) else raw db k := by
  refine Option.ext fun i => ?_
  rw [mem_raw (app1_asc h e), mem_app1 h]
  by_cases hk : e.key = k
  · subst hk
    simp only [ne_eq, not_true_eq_false, and_false, false_or, if_true]
    unfold ins
    cases e.gone with
    | true => simp
    | false => simp [eq_comm]
  · rw [if_neg hk, mem_raw h]
    constructor
    · rintro (h1 | h1)
      · exact h1.1
      · have := (ins_key h1).1
        injection this with h2
        exact absurd h2.symm hk
    · exact fun h1 => .inl ⟨h1, Ne.symm hk⟩
/-- the last effect on a key. -/
def lastE (es : List E) (k : List UInt8) : Option E := es.reverse.find? fun e => decide (e.key = k)
def seen (o : Option E) (r : Option It.I) : Option It.I := match o with | some e => if e.gone then none else some e.it | none => r
theorem raw_appR {db : List P} (h : AscP db) (k : List UInt8) : ∀ es : List E, raw (app db es.reverse) k = seen (es.find? fun e => decide (e.key = k)) (raw db k)
  | [] => rfl
  | e :: es => by
    rw [List.reverse_cons, app_snoc, raw_app1 (app_asc h _), List.find?_cons, raw_appR h k es]
    by_cases hk : e.key = k
    · simp [hk, seen]
    · simp [hk]
theorem raw_app {db : List P} (h : AscP db) (es : List E) (k : List UInt8) : raw (app db es) k = seen (lastE es k) (raw db k) := by
  have := raw_appR h k es.reverse
  rw [List.reverse_reverse] at this
  exact this
theorem asc_ext {l m : List P} (hl : AscP l) (hm : AscP m) (h : ∀ k, raw l k = raw m k) : l = m := by
  have hnd : ∀ {l : List P}, AscP l → l.Nodup := fun {l} h => List.Pairwise.imp (R := fun (p q : P) => p.key < q.key) (S := fun p q => p ≠ q) (fun {a b} (hab : a.key < b.key) (e : a = b) => lt_irr b.key (by rw [e] at hab; exact hab)) h
  have hp : l.Perm m := (List.perm_ext_iff_of_nodup (hnd hl) (hnd hm)).2 fun p => by
    rw [← mem_raw hl p.key p.it, ← mem_raw hm p.key p.it, h]
  exact List.Perm.eq_of_pairwise (le := fun (p q : P) => p.key < q.key) (fun (a b : P) _ _ (h1 : a.key < b.key) (h2 : b.key < a.key) => absurd (lt_tr h1 h2) (lt_irr _)) hl hm hp
/-- effects with the same last ones make the same. -/
theorem app_same {db : List P} (h : AscP db) {es fs : List E} (hl : ∀ k, lastE es k = lastE fs k) : app db es = app db fs :=
  asc_ext (app_asc h _) (app_asc h _) fun k => by rw [raw_app h, raw_app h, hl]
/-- pairs ahead of an effect's key stay. -/
theorem app1_behind {l db : List P} {e : E} (h : ∀ p ∈ l, p.key < e.key) : app1 (l ++ db) e = l ++ app1 db e := by
  have h1 : (l ++ db).takeWhile (ltK e.key) = l ++ db.takeWhile (ltK e.key) := List.takeWhile_append_of_pos fun p hp => by simp [ltK, h p hp]
  have h2 : (l ++ db).dropWhile (ltK e.key) = db.dropWhile (ltK e.key) := List.dropWhile_append_of_pos fun p hp => by simp [ltK, h p hp]
  rw [app1_form, app1_form, h1, h2, List.append_assoc]
/-- a place is found: one effect. -/
theorem app1_at {db : List P} (h : AscP db) {e : E} {k : Nat} {b : Bool} (hk : k ≤ db.length) (h1 : ∀ j, j < k → (db.getD j P.zero).key < e.key) (h2 : ∀ j, k ≤ j → j < db.length → ¬ (db.getD j P.zero).key < e.key) (hb : b = true ↔ k < db.length ∧ (db.getD k P.zero).key = e.key) :
    app1 db e = db.take k ++ (ins e ++ if b then (db.drop k).drop 1 else db.drop k) := by
  have gd : ∀ (l : List P) (j : Nat) (hj : j < l.length), l.getD j P.zero = l[j] := fun l j hj => by simp [List.getD, hj]
  have hall : ∀ p ∈ db.take k, ltK e.key p = true := fun p hp => by
    obtain ⟨j, hj, rfl⟩ := List.getElem_of_mem hp
    rw [List.length_take] at hj
    have := h1 j (by omega)
    rw [gd db j (by omega)] at this
    simpa [ltK] using this
  have d1 : (db.drop k).takeWhile (ltK e.key) = [] ∧ (db.drop k).dropWhile (ltK e.key) = db.drop k := by
    cases hd : db.drop k with
    | nil => simp
    | cons p r =>
      have hkl : k < db.length := by
        rcases Nat.lt_or_ge k db.length with h' | h'
        · exact h'
        · rw [List.drop_eq_nil_of_le h'] at hd; cases hd
      have hp : p = db[k] := by
        have := List.drop_eq_getElem_cons hkl
        rw [hd] at this
        exact (List.cons.inj this).1
      have hn := h2 k (Nat.le_refl _) hkl
      rw [gd db k hkl, ← hp] at hn
      simp [ltK, hn]
  have e1 : db.takeWhile (ltK e.key) = db.take k ∧ db.dropWhile (ltK e.key) = db.drop k := by
    have h3 := List.takeWhile_append_of_pos (p := ltK e.key) (l₁ := db.take k) (l₂ := db.drop k) hall
    have h4 := List.dropWhile_append_of_pos (p := ltK e.key) (l₁ := db.take k) (l₂ := db.drop k) hall
    rw [List.take_append_drop] at h3 h4
    rw [d1.1, List.append_nil] at h3
    exact ⟨h3, h4.trans d1.2⟩
  rw [app1_form, e1.1, e1.2]
  congr 2
  have hds : AscP (db.drop k) := List.Pairwise.sublist (List.drop_sublist k db) h
  cases hbb : b with
  | true =>
    obtain ⟨hkl, hke⟩ := hb.1 hbb
    rw [gd db k hkl] at hke
    rw [if_pos rfl]
    rw [List.drop_eq_getElem_cons hkl] at hds ⊢
    rw [List.filter_cons, show neK e.key db[k] = false by simp [neK, hke]]
    simp only [Bool.false_eq_true, if_false, List.drop_succ_cons, List.drop_zero]
    refine List.filter_eq_self.2 fun p hp => ?_
    have := lt_ne ((List.pairwise_cons.1 hds).1 p hp)
    rw [hke] at this
    simp [neK, Ne.symm this]
  | false =>
    rw [if_neg (by simp)]
    refine List.filter_eq_self.2 fun p hp => ?_
    obtain ⟨j, hj, rfl⟩ := List.getElem_of_mem hp
    rw [List.length_drop] at hj
    rw [List.getElem_drop]
    have hne : db[k + j].key ≠ e.key := fun he => by
      rcases Nat.eq_zero_or_pos j with rfl | hj0
      · have := hb.2 ⟨by omega, by rw [gd db k (by omega)]; exact he⟩
        rw [hbb] at this
        cases this
      · have h5 := h2 k (Nat.le_refl _) (by omega)
        rw [gd db k (by omega)] at h5
        exact h5 (he ▸ List.pairwise_iff_getElem.1 h k (k + j) (by omega) (by omega) (by omega))
    simp [neK, hne]
end Db
end Go.Proofs.Ytkmdpmkjcfccnaa
namespace Go.Proofs.Ytkmdpmkjcfccnaa
open Go.RowKit Go.Maps Go.Sort Go.Shelf
set_option linter.unusedVariables false

theorem sortsI (m : Nat) : AnyZ.SortsIn Try.prog Try.it_sorted_ren Fence.wide m :=
  ⟨fun blk off cap ss W hH hblk hsz => callsIn_wide.2 (AnyM.slices_Sort_string Try.it_sort blk off cap ss W hH hblk hsz),
   fun p cap W => callsIn_wide.2 (AnyM.slices_Sort_string_none Try.it_sort p cap W)⟩
theorem mapKeys_any (mb : Option Nat) (W : World) : Calls Try.prog 47 #[.map mb] W fun e w' => e = .returned (.func (.func 66) #[] #[.pointer (some ⟨W.heap.size, 0, none⟩)]) ∧ w' = W.alloc (.cells #[.map mb] 70) :=
  callsIn_wide.1 (AnyZ.keys_in Try.it_keys Fence.wide 5 trivial rfl mb W)

/-- how an effect in the map reads: as itself. -/
def heldR (v : Value) : Option (DataW Value × List MemPlace) := some (.held v, [])
theorem heldR_inv {v : Value} {d : DataW Value} {ps : List MemPlace} (h : heldR v = some (d, ps)) : d = .held v := by
  unfold heldR at h
  injection h with h
  injection h with h1 h2
  exact h1.symm
/-- block b is a map that reads as D. -/
def MapIn (w : World) (b n : Nat) (D : DataW Value) : Prop := w.ownsMap Try.prog 9 heldR b n D

set_option maxHeartbeats 1000000 in
theorem sortedKeys_any (b nn : Nat) (D0 : DataW Value) (w : World) (hown : MapIn w b nn D0) (hn : nn ≤ 1000000) :
    Calls Try.prog 46 #[.func (.func 66) #[] #[.pointer (some ⟨w.heap.size, 0, none⟩)]] (w.alloc (.cells #[.map (some b)] 70)) fun e w' => ∃ (v : Value) (ss : List (List UInt8)), e = .returned v ∧ ss.Perm (strKeys D0) ∧
      w'.ownsRow (w.alloc (.cells #[.map (some b)] 70)).heap.size 9 1 v ss.length ((ss.mergeSort (fun x y => decide (x ≤ y))).map encStr) ∧ (v = .slice none 0 0 ↔ ss = []) ∧ Below (w.alloc (.cells #[.map (some b)] 70)).heap.size (w.alloc (.cells #[.map (some b)] 70)) w' := by
  have hbl := World.ownsMap.lt hown
  have hsz := World.ownsMap.size_le hown
  have hseq : SeqGives Fence.wide 2 Try.prog 66 #[.pointer (some ⟨w.heap.size, 0, none⟩)] encStr (fun ss => ss.Perm (strKeys D0)) (Maps.size D0) (w.alloc (.cells #[.map (some b)] 70)) :=
    AnyZ.keys_gives (ρ := Try.it_keys_ren) { Try.it_keys with } Fence.wide _ trivial rfl (by omega) w.heap.size b nn D0 _ (by simp) (by simp) (by
      obtain ⟨es, clock, hb, Ft, hs, hD⟩ := hown
      exact ⟨es, clock, (Below.heap_alloc _ _ b hbl).trans hb, Ft, hs, hD⟩)
  exact callsIn_wide.1 (AnyZ.sorted_in Try.it_sorted Fence.wide 5 trivial trivial trivial trivial rfl (by omega) (sortsI _) (enters_of Try.func65 (by kernel_rfl) rfl) 66 #[.pointer (some ⟨w.heap.size, 0, none⟩)] trivial (enters_of Try.func66 (by kernel_rfl) rfl) _ _ (by unfold maxLen; omega) (by omega) _ hseq)

/-- the map of effects, the last first. -/
def mapR : List Le → DataW Value
  | [] => .map []
  | e :: r => (mapR r).put (.string e.key) (.held (effV e))
/-- the last effect on a key, the last first. -/
def lastR : List Le → List UInt8 → Option Le
  | [], _ => none
  | e :: r, k => if e.key = k then some e else lastR r k
theorem mapR_is : ∀ r, Maps.IsMap (mapR r)
  | [] => Maps.isMap_empty
  | e :: r => (mapR_is r).put _ _
theorem strKey_is (k : List UInt8) : WideAt.IsKeyLit (.string k) := trivial
theorem str_ne {a b : List UInt8} (h : ¬ a = b) : (Lit.string b) ≠ .string a := fun e => h (by injection e with e; exact e.symm)
theorem mapR_at (k : List UInt8) (z : DataW Value) : ∀ r, (mapR r).atKey (.string k) z = match lastR r k with | some e => .held (effV e) | none => z
  | [] => by
    have : Maps.has (.map [] : DataW Value) (.string k) = false := rfl
    exact Maps.atKey_of_not_has this z
  | e :: r => by
    unfold mapR lastR
    by_cases h : e.key = k
    · subst h
      rw [Maps.atKey_put_same (mapR_is r) (strKey_is _)]
      simp
    · rw [Maps.atKey_put_other (str_ne h), mapR_at k z r, if_neg h]
theorem mapR_has (k : List UInt8) : ∀ r, Maps.has (mapR r) (.string k) = (lastR r k).isSome
  | [] => rfl
  | e :: r => by
    unfold mapR lastR
    by_cases h : e.key = k
    · subst h
      rw [Maps.has_put_same (mapR_is r) (strKey_is _)]
      simp
    · rw [Maps.has_put_other (str_ne h), mapR_has k r, if_neg h]
theorem lastR_key : ∀ {r : List Le} {k : List UInt8} {e : Le}, lastR r k = some e → e ∈ r ∧ e.key = k
  | [], _, _, h => by cases h
  | e0 :: r, k, e, h => by
    unfold lastR at h
    split at h
    · rename_i hk
      injection h with h
      subst h
      exact ⟨List.mem_cons_self .., hk⟩
    · have := lastR_key h
      exact ⟨List.mem_cons_of_mem _ this.1, this.2⟩

/-- the sorted keys of the map: they ascend, and each is an effect's. -/
theorem keys_sorted {w : World} {b n : Nat} {r : List Le} {ss : List (List UInt8)} (hown : MapIn w b n (mapR r)) (hp : ss.Perm (strKeys (mapR r))) :
    (ss.mergeSort (fun x y => decide (x ≤ y))).Pairwise (fun x y => x < y) ∧ (∀ k, k ∈ ss.mergeSort (fun x y => decide (x ≤ y)) ↔ (lastR r k).isSome = true) ∧ ss.length ≤ n := by
  have K : Maps.Keyed Try.prog 9 := Maps.string_keyed Try.underlying9
  have hsz := World.ownsMap.size_le hown
  have hstr : ∀ es, mapR r = .map es → ∀ p ∈ es, ∃ x, p.1 = .string x := fun es he p hp => by
    obtain ⟨es', he', hk⟩ := World.ownsMap.keysOf hown
    rw [he] at he'
    injection he' with he'
    subst he'
    obtain ⟨v, hv⟩ := hk p hp
    obtain ⟨x, -, hx, -⟩ := Maps.keyOf_str Try.underlying9 hv
    exact ⟨x, hx⟩
  obtain ⟨es, he, hpw, -⟩ := World.ownsMap.entries hown K
  have hmem : ∀ k, k ∈ strKeys (mapR r) ↔ (lastR r k).isSome = true := fun k => by
    rw [← mapR_has, he, Maps.has_eq, List.any_eq_true]
    show k ∈ (es.map fun p => strOf p.1) ↔ _
    rw [List.mem_map]
    constructor
    · rintro ⟨p, hp, rfl⟩
      obtain ⟨x, hx⟩ := hstr es he p hp
      refine ⟨p, hp, ?_⟩
      rw [hx]
      simp [strOf, Lit.sameKey]
    · rintro ⟨p, hp, hs⟩
      obtain ⟨x, hx⟩ := hstr es he p hp
      refine ⟨p, hp, ?_⟩
      by_cases h : Lit.string x = .string k
      · rw [hx, h]; rfl
      · rw [hx, Maps.sameKey_ne h] at hs
        cases hs
  have hnd : (strKeys (mapR r)).Nodup := by
    rw [he]
    show (es.map fun p => strOf p.1).Nodup
    refine List.pairwise_map.2 (hpw.imp_of_mem fun {p q} hp' hq' hne e => hne ?_)
    obtain ⟨x, ha⟩ := hstr es he p hp'
    obtain ⟨y, hb⟩ := hstr es he q hq'
    rw [ha, hb] at e ⊢
    exact congrArg _ e
  have tr : ∀ a b c : List UInt8, decide (a ≤ b) = true → decide (b ≤ c) = true → decide (a ≤ c) = true := fun a b c h1 h2 => by simp only [decide_eq_true_eq] at *; exact List.le_trans h1 h2
  have tot : ∀ a b : List UInt8, (decide (a ≤ b) || decide (b ≤ a)) = true := fun a b => by simp only [Bool.or_eq_true, decide_eq_true_eq]; exact List.le_total a b
  have hms := List.mergeSort_perm ss (fun x y => decide (x ≤ y))
  have hnd2 : (ss.mergeSort (fun x y => decide (x ≤ y))).Nodup := ((hms.trans hp).nodup_iff).2 hnd
  refine ⟨?_, fun k => ?_, ?_⟩
  · refine (List.Pairwise.and (List.pairwise_mergeSort tr tot ss) hnd2).imp fun {x y} h => ?_
    have h1 : x ≤ y := by simpa using h.1
    rcases Classical.em (x < y) with h2 | h2
    · exact h2
    · exact absurd (List.le_antisymm h1 (List.not_lt.1 h2)) h.2
  · rw [← hmem, (hms.trans hp).mem_iff]
  · rw [hp.length_eq, he]
    rw [he] at hsz
    simpa [strKeys, Maps.size_eq] using hsz
end Go.Proofs.Ytkmdpmkjcfccnaa
namespace Go.Proofs.Ytkmdpmkjcfccnaa
open Go.RowKit Go.Maps Go.Sort Go.Shelf
set_option linter.unusedVariables false

theorem lastR_find : ∀ (r : List Le) (k : List UInt8), lastR r k = r.find? fun e => decide (e.key = k)
  | [], _ => rfl
  | e :: r, k => by
    unfold lastR
    rw [List.find?_cons, lastR_find r k]
    by_cases h : e.key = k <;> simp [h]
theorem lastE_R (es : List Le) (k : List UInt8) : Db.lastE (es.map Le.e) k = (lastR es.reverse k).map Le.e := by
  unfold Db.lastE
  rw [lastR_find, ← List.map_reverse, List.find?_map]
  rfl
/-- the last effect on a key that has one. -/
def effOf (r : List Le) (k : List UInt8) : Le := (lastR r k).getD Le.zero
theorem effOf_key {r : List Le} {k : List UInt8} (h : (lastR r k).isSome = true) : lastR r k = some (effOf r k) ∧ effOf r k ∈ r ∧ (effOf r k).key = k := by
  obtain ⟨e, he⟩ := Option.isSome_iff_exists.1 h
  have := lastR_key he
  unfold effOf
  rw [he]
  exact ⟨rfl, this.1, this.2⟩
/-- the last effects, by their keys. -/
def effsOf (r : List Le) (ks : List (List UInt8)) : List Db.E := ks.map fun k => (effOf r k).e
theorem effsOf_last {es : List Le} {ks : List (List UInt8)} (hk : ∀ k, k ∈ ks ↔ (lastR es.reverse k).isSome = true) (k : List UInt8) : Db.lastE (effsOf es.reverse ks) k = Db.lastE (es.map Le.e) k := by
  rw [lastE_R]
  unfold Db.lastE effsOf
  cases hf : (List.map (fun k => (effOf es.reverse k).e) ks).reverse.find? fun e => decide (e.key = k) with
  | none =>
    cases hl : lastR es.reverse k with
    | none => rfl
    | some e =>
      have hs : (lastR es.reverse k).isSome = true := by rw [hl]; rfl
      have hm := (hk k).2 hs
      have h1 := List.find?_eq_none.1 hf (effOf es.reverse k).e (List.mem_reverse.2 (List.mem_map.2 ⟨k, hm, rfl⟩))
      have h2 := (effOf_key hs).2.2
      exact absurd (decide_eq_true (show (effOf es.reverse k).e.key = k from h2)) h1
  | some x =>
    have hm := List.mem_of_find?_eq_some hf
    have hx := List.find?_some hf
    rw [List.mem_reverse, List.mem_map] at hm
    obtain ⟨k', hk', rfl⟩ := hm
    have hs := (hk k').1 hk'
    obtain ⟨h1, h2, h3⟩ := effOf_key hs
    have hkk : k' = k := by
      have : (effOf es.reverse k').key = k := of_decide_eq_true hx
      rw [← this, h3]
    subst hkk
    rw [h1]
    rfl

/-- AscL and AscP. -/
theorem AscL.p {ps : List Lp} (h : AscL ps) : Db.AscP (ps.map Lp.p) := by
  unfold Db.AscP
  refine List.pairwise_map.2 (List.pairwise_iff_getElem.2 fun i j hi hj hij => ?_)
  have := h i j hij hj
  rwa [getD_eq hi, getD_eq hj] at this
theorem AscP.l {ps : List Lp} (h : Db.AscP (ps.map Lp.p)) : AscL ps := fun i j hij hj => by
  have := List.pairwise_iff_getElem.1 (List.pairwise_map.1 h) i j (by omega) hj hij
  rw [getD_eq (by omega), getD_eq hj]
  exact this
theorem AscL.drop {ps : List Lp} (h : AscL ps) (k : Nat) : AscL (ps.drop k) := AscP.l (by rw [List.map_drop]; exact List.Pairwise.sublist (List.drop_sublist _ _) h.p)
theorem pkey_at (ps : List Lp) {j : Nat} (hj : j < ps.length) : ((ps.map Lp.p).getD j Db.P.zero).key = (ps.getD j Lp.zero).key := by rw [map_getD Lp.p ps Lp.zero Db.P.zero hj]; rfl
theorem app1_found {rs : List Lp} (h : AscL rs) {e : Db.E} {k : Nat} {b : Bool} (hf : FoundAt rs e.key k b) :
    Db.app1 (rs.map Lp.p) e = (rs.take k).map Lp.p ++ (Db.ins e ++ (if b then (rs.drop k).drop 1 else rs.drop k).map Lp.p) := by
  obtain ⟨h0, h1, h2, h3⟩ := hf
  have := Db.app1_at (e := e) (k := k) (b := b) h.p (by simpa using h0) (fun j hj => by rw [pkey_at rs (by omega)]; exact h1 j hj) (fun j hj hj2 => by rw [List.length_map] at hj2; rw [pkey_at rs hj2]; exact h2 j hj hj2)
    (by
      rw [h3, List.length_map]
      constructor
      · rintro ⟨g1, g2⟩; exact ⟨g1, by rw [pkey_at rs g1]; exact g2⟩
      · rintro ⟨g1, g2⟩; exact ⟨g1, by rw [pkey_at rs g1] at g2; exact g2⟩)
  rw [this, List.map_take]
  congr 2
  cases b <;> simp [List.map_drop]

/-- the walk's state, plainly: what is done, what is left. -/
def StepP (db : List Db.P) (r : List Le) (ks : List (List UInt8)) (n : Nat) (X : List Db.P) (rs : List Lp) : Prop :=
  X ++ rs.map Lp.p = Db.app db (effsOf r (ks.take n)) ∧ (∀ x ∈ X, ∀ k ∈ ks.drop n, x.key < k) ∧ AscL rs
theorem StepP.start {ps : List Lp} (h : AscL ps) (r : List Le) (ks : List (List UInt8)) : StepP (ps.map Lp.p) r ks 0 [] ps := ⟨rfl, by simp, h⟩
theorem StepP.step {db : List Db.P} {r : List Le} {ks : List (List UInt8)} {n : Nat} {X : List Db.P} {rs : List Lp} (h : StepP db r ks n X rs) (hn : n < ks.length) (hks : ks.Pairwise fun x y => x < y) {e : Le} (he : effOf r (ks.getD n []) = e) (hek : e.key = ks.getD n []) {k : Nat} {b : Bool} (hf : FoundAt rs (ks.getD n []) k b) :
    StepP db r ks (n + 1) (X ++ (rs.take k).map Lp.p ++ Db.ins e.e) (if b then (rs.drop k).drop 1 else rs.drop k) := by
  obtain ⟨h1, h2, h3⟩ := h
  have hmem : ks.getD n [] ∈ ks.drop n := by
    rw [getD_eq hn, List.drop_eq_getElem_cons hn]
    exact List.mem_cons_self ..
  have hlt : ∀ k' ∈ ks.drop (n + 1), ks.getD n [] < k' := fun k' hk' => by
    rw [getD_eq hn]
    obtain ⟨j, hj, rfl⟩ := List.getElem_of_mem hk'
    rw [List.length_drop] at hj
    rw [List.getElem_drop]
    exact List.pairwise_iff_getElem.1 hks n (n + 1 + j) hn (by omega) (by omega)
  have hek2 : e.e.key = ks.getD n [] := hek
  have ha := app1_found (e := e.e) h3 (k := k) (b := b) (by rw [hek2]; exact hf)
  refine ⟨?_, ?_, ?_⟩
  · rw [List.append_assoc, List.append_assoc, ← ha, ← Db.app1_behind (fun x hx => by rw [hek2]; exact h2 x hx _ hmem), h1, ← Db.app_snoc]
    congr 1
    unfold effsOf
    rw [take_succ_getD (d := []) hn, List.map_append]
    show _ = _ ++ [(effOf r (ks.getD n [])).e]
    rw [he]
  · intro x hx k' hk'
    have hd : k' ∈ ks.drop n := List.mem_of_mem_drop (i := 1) (by rw [List.drop_drop]; exact hk')
    rcases List.mem_append.1 hx with hx | hx
    · rcases List.mem_append.1 hx with hx | hx
      · exact h2 x hx k' hd
      · rw [List.map_take] at hx
        obtain ⟨j, hj, rfl⟩ := List.getElem_of_mem hx
        rw [List.length_take, List.length_map] at hj
        rw [List.getElem_take, List.getElem_map]
        have := hf.2.1 j (by omega)
        rw [getD_eq (by omega)] at this
        exact Db.lt_tr this (hlt k' hk')
    · rw [(Db.ins_key hx).1]
      show e.e.key < k'
      rw [hek2]
      exact hlt k' hk'
  · cases b
    · exact h3.drop k
    · exact (h3.drop k).drop 1
theorem StepP.fin {ps : List Lp} (hu : AscL ps) {es : List Le} {ks : List (List UInt8)} {X : List Db.P} {rs : List Lp} (h : StepP (ps.map Lp.p) es.reverse ks ks.length X rs) (hk : ∀ k, k ∈ ks ↔ (lastR es.reverse k).isSome = true) :
    X ++ rs.map Lp.p = Db.app (ps.map Lp.p) (es.map Le.e) := by
  rw [h.1, List.take_length]
  exact Db.app_same hu.p fun k => effsOf_last hk k

theorem MapIn.later {w w' : World} {b n : Nat} {D : DataW Value} (h : MapIn w b n D) (hb : Below w.heap.size w w') : MapIn w' b n D := by
  have hlt := World.ownsMap.lt h
  obtain ⟨es, clock, hg, F, hs, hD⟩ := h
  exact ⟨es, clock, (hb.block b hlt).trans hg, F, hs, hD⟩
theorem MapIn.alloc {w : World} {b n : Nat} {D : DataW Value} (h : MapIn w b n D) (o : Obj) : MapIn (w.alloc o) b n D := World.ownsMap.alloc h o
theorem strKey_of (key : List UInt8) (h : key.length ≤ 1000000) : keyOf Try.prog 9 (.string ⟨key.toArray⟩) = some (.string key) := by
  have := Go.WideMaps.keyOf_string_mk (P := Try.prog) (k := 9) Try.underlying9 (s := ⟨key.toArray⟩) (by unfold maxLen; simp [ByteArray.size]; omega)
  simpa using this
theorem held_inj {a b : Value} (h : (DataW.held a : DataW Value) = .held b) : a = b := by injection h
/-- what stands in the map under a key. -/
theorem MapIn.look {w : World} {b n : Nat} {r : List Le} (h : MapIn w b n (mapR r)) {key : List UInt8} (hk : (lastR r key).isSome = true) (hl : key.length ≤ 1000000) :
    (Instr.lookup 70 (.map (some b)) (.string ⟨key.toArray⟩) false).run Try.prog w = .ok (effV (effOf r key)) w := by
  obtain ⟨v, ps, hrun, hv⟩ := World.ownsMap.lookup h (Maps.string_keyed Try.underlying9) Try.underlying70 (Try.zeroValue54 w) (zd := .held (.agg #[.string ⟨#[]⟩, .bool false, .int .i64 0, .string ⟨#[]⟩, .slice none 0 0, .slice none 0 0, .int .i64 0])) (zp := []) rfl (strKey_of key hl)
  have h1 := heldR_inv hv
  have h2 := mapR_at key (.held (.agg #[.string ⟨#[]⟩, .bool false, .int .i64 0, .string ⟨#[]⟩, .slice none 0 0, .slice none 0 0, .int .i64 0])) r
  rw [(effOf_key hk).1] at h2
  have h3 : effV (effOf r key) = v := held_inj (h2.symm.trans h1)
  exact hrun.trans (congrArg (fun x => Result.ok x w) h3.symm)
/-- the sorted keys, as words. -/
theorem keysOf_any (b nn : Nat) (r : List Le) (w : World) (hown : MapIn w b nn (mapR r)) (hn : nn ≤ 1000000) (hl : ∀ e ∈ r, e.key.length ≤ 1000000) :
    Calls Try.prog 46 #[.func (.func 66) #[] #[.pointer (some ⟨w.heap.size, 0, none⟩)]] (w.alloc (.cells #[.map (some b)] 70)) fun e w' => ∃ a c ks, e = .returned (.slice a ks.length c) ∧ Wds w' a c ks ∧ ks.Pairwise (fun x y => x < y) ∧ (∀ k, k ∈ ks ↔ (lastR r k).isSome = true) ∧ ks.length ≤ nn ∧ Below w.heap.size w w' := by
  refine (sortedKeys_any b nn (mapR r) w hown hn).mono ?_
  rintro e w' ⟨v, ss, rfl, hp, hrow, -, hb⟩
  obtain ⟨h1, h2, h3⟩ := keys_sorted hown hp
  have hlen : (ss.mergeSort (fun x y => decide (x ≤ y))).length = ss.length := List.length_mergeSort ss
  rw [← hlen] at hrow
  obtain ⟨a, c, rfl, hw, -⟩ := wds_of_row hrow fun k hk => by
    have := effOf_key ((h2 k).1 hk)
    have := hl _ this.2.1
    rw [(effOf_key ((h2 k).1 hk)).2.2] at this
    omega
  exact ⟨a, c, _, rfl, hw, h1, h2, by omega, ((Below.refl _ w).alloc (Nat.le_refl _) _).trans (hb.mono (by simp))⟩
end Go.Proofs.Ytkmdpmkjcfccnaa
