/- Sets as rising lists: what Of, Both, Union, Minus make. No program in it. -/
import Derived.Test.YtekdmnecjgpokaaItMakePlain
import Derived.Lib.SlicesCompact
namespace Go.Proofs.Ytekdmnecjgpokaa
set_option linter.unusedVariables false
set_option linter.unusedSimpArgs false
namespace St
open It Mk

abbrev Bs := List UInt8

theorem up_nodup {l : List Bs} (h : upS l) : l.Nodup := h.imp fun h => lt_ne h
theorem up_ext {a b : List Bs} (ha : upS a) (hb : upS b) (h : ∀ x, x ∈ a ↔ x ∈ b) : a = b :=
  List.Perm.eq_of_pairwise (le := fun a b : Bs => a < b) (fun a b _ _ h1 h2 => absurd (lt_tr h1 h2) (List.lt_irrefl _)) ha hb ((List.perm_ext_iff_of_nodup (up_nodup ha) (up_nodup hb)).2 h)
theorem up_nil : upS [] := List.Pairwise.nil
theorem up_filter {l : List Bs} (h : upS l) (p : Bs → Bool) : upS (l.filter p) := List.Pairwise.filter p h

theorem has_iff {l : List Bs} {s : Bs} : hasB l s = true ↔ s ∈ l := by
  unfold hasB
  rw [List.any_eq_true]
  constructor
  · rintro ⟨x, hx, e⟩
    rwa [← beq_iff_eq.1 e]
  · intro h
    exact ⟨s, h, beq_self_eq_true s⟩
theorem has_not {l : List Bs} {s : Bs} : hasB l s = false ↔ s ∉ l := by
  rw [← has_iff]
  simp

theorem mem_sadd {l : List Bs} {s x : Bs} : x ∈ sadd l s ↔ x ∈ l ∨ x = s := by
  unfold sadd
  split
  · rename_i h
    have := has_iff.1 h
    constructor
    · exact .inl
    · rintro (h | rfl)
      · exact h
      · exact this
  · conv => rhs; rw [← List.take_append_drop (lowS l s) l]
    simp only [List.mem_append, List.mem_singleton]
    constructor
    · rintro ((h | h) | h)
      · exact .inl (.inl h)
      · exact .inr h
      · exact .inl (.inr h)
    · rintro ((h | h) | h)
      · exact .inl (.inl h)
      · exact .inr h
      · exact .inl (.inr h)
theorem up_sadd {l : List Bs} {s : Bs} (h : upS l) : upS (sadd l s) := (sadd_up l s h).1

/-- texts as a set. -/
def ofS (l : List Bs) : List Bs := l.foldl sadd []
theorem fold_up : ∀ (l acc : List Bs), upS acc → upS (l.foldl sadd acc) ∧ (∀ x, x ∈ l.foldl sadd acc ↔ x ∈ acc ∨ x ∈ l) ∧ (l.foldl sadd acc).length ≤ acc.length + l.length
  | [], acc, h => ⟨h, fun x => by simp, by simp⟩
  | s :: l, acc, h => by
    obtain ⟨h1, h2, h3⟩ := fold_up l (sadd acc s) (up_sadd h)
    refine ⟨h1, fun x => ?_, ?_⟩
    · rw [List.foldl_cons, h2, mem_sadd, List.mem_cons, or_assoc]
    · have := (sadd_up acc s h).2.2
      rw [List.foldl_cons, List.length_cons]
      omega
theorem of_up (l : List Bs) : upS (ofS l) := (fold_up l [] up_nil).1
theorem mem_of {l : List Bs} {x : Bs} : x ∈ ofS l ↔ x ∈ l := by
  have := (fold_up l [] up_nil).2.1 x
  simpa [ofS] using this
theorem of_len (l : List Bs) : (ofS l).length ≤ l.length := by
  have := (fold_up l [] up_nil).2.2
  simpa [ofS] using this
theorem of_take {l : List Bs} {k : Nat} (h : k < l.length) : ofS (l.take (k + 1)) = sadd (ofS (l.take k)) (l.getD k []) := by
  unfold ofS
  rw [List.take_succ_eq_append_getElem h, getD_eq h, List.foldl_append, List.foldl_cons, List.foldl_nil]
theorem of_self {l : List Bs} (h : upS l) : ofS l = l := up_ext (of_up l) h fun x => mem_of
theorem of_nil : ofS [] = [] := rfl
theorem sadd_ne {l : List Bs} {s : Bs} : 0 < (sadd l s).length := List.length_pos_of_mem (mem_sadd.2 (.inr rfl))

/-- the library's sort. -/
def sortS (l : List Bs) : List Bs := l.mergeSort fun x y => decide (x ≤ y)
theorem sort_pair (l : List Bs) : (sortS l).Pairwise fun a b => a ≤ b := by
  have := List.pairwise_mergeSort (le := fun x y : Bs => decide (x ≤ y)) (fun a b c h1 h2 => by simp only [decide_eq_true_eq] at *; exact List.le_trans h1 h2) (fun a b => by
    simp only [Bool.or_eq_true, decide_eq_true_eq]
    exact List.le_total a b) l
  simpa [sortS] using this
theorem mem_sort {l : List Bs} {x : Bs} : x ∈ sortS l ↔ x ∈ l := (List.mergeSort_perm l _).mem_iff
theorem sort_len (l : List Bs) : (sortS l).length = l.length := List.length_mergeSort l

theorem lt_of_le_ne {a b : Bs} (h : a ≤ b) (hn : a ≠ b) : a < b := by
  rcases Classical.em (a < b) with h' | h'
  · exact h'
  · exact absurd (List.le_antisymm h (List.not_lt.1 h')) hn

theorem at_getD {d : List Bs} {j : Nat} (hj : j < d.length) : d.toArray[j]! = d[j] := by simp [hj]

theorem mem_compact (d : List Bs) (x : Bs) : x ∈ Lib.compact d ↔ x ∈ d := by
  unfold Lib.compact Lib.compactUpTo
  simp only [List.mem_map, List.mem_filter, List.mem_range]
  constructor
  · rintro ⟨j, ⟨hj, -⟩, rfl⟩
    rw [at_getD hj]
    exact List.getElem_mem hj
  · intro hx
    obtain ⟨j, hj, rfl⟩ := List.getElem_of_mem hx
    induction j with
    | zero => exact ⟨0, ⟨hj, by simp [Lib.keeps]⟩, at_getD hj⟩
    | succ j ih =>
      by_cases hk : Lib.keeps d.toArray (j + 1) = true
      · exact ⟨j + 1, ⟨hj, hk⟩, at_getD hj⟩
      · obtain ⟨i, hi, e⟩ := ih (by omega) (List.getElem_mem (by omega))
        refine ⟨i, hi, e.trans ?_⟩
        simp only [Lib.keeps, decide_eq_true_eq, not_or, Decidable.not_not] at hk
        have := hk.2
        rw [at_getD hj, show j + 1 - 1 = j from rfl, at_getD (by omega)] at this
        exact this.symm
theorem compact_up {d : List Bs} (h : d.Pairwise fun a b => a ≤ b) : upS (Lib.compact d) := by
  unfold Lib.compact Lib.compactUpTo upS
  rw [List.pairwise_map, List.pairwise_filter]
  refine List.Pairwise.imp_of_mem (R := fun i j => i < j) ?_ List.pairwise_lt_range
  intro i j hi hj hij _ hk
  rw [List.mem_range] at hi hj
  rw [at_getD hi, at_getD hj]
  simp only [Lib.keeps, decide_eq_true_eq] at hk
  rcases hk with hk | hk
  · omega
  · rw [at_getD hj, at_getD (by omega)] at hk
    have h1 : d[j - 1] ≤ d[j] := List.pairwise_iff_getElem.1 h (j - 1) j (by omega) hj (by omega)
    have h2 : d[j - 1] < d[j] := lt_of_le_ne h1 fun e => hk e.symm
    by_cases e : i = j - 1
    · subst e
      exact h2
    · have h3 : d[i] ≤ d[j - 1] := List.pairwise_iff_getElem.1 h i (j - 1) hi (by omega) (by omega)
      by_cases e2 : d[i] = d[j - 1]
      · rw [e2]; exact h2
      · exact lt_tr (lt_of_le_ne h3 e2) h2
theorem compact_sort (l : List Bs) : Lib.compact (sortS l) = ofS l :=
  up_ext (compact_up (sort_pair l)) (of_up l) fun x => by rw [mem_compact, mem_sort, mem_of]

/-- an element with the sides that have it. -/
abbrev El := Bs × Bool × Bool
/-- two sets at once. -/
def mrg : List Bs → List Bs → List El
  | [], [] => []
  | x :: a, [] => (x, true, false) :: mrg a []
  | [], y :: b => (y, false, true) :: mrg [] b
  | x :: a, y :: b => if x < y then (x, true, false) :: mrg a (y :: b) else if y < x then (y, false, true) :: mrg (x :: a) b else (x, true, true) :: mrg a b
termination_by a b => a.length + b.length
theorem mrg_left (x : Bs) (a : List Bs) : mrg (x :: a) [] = (x, true, false) :: mrg a [] := by rw [mrg]
theorem mrg_right (y : Bs) (b : List Bs) : mrg [] (y :: b) = (y, false, true) :: mrg [] b := by rw [mrg]
theorem mrg_nil : mrg [] [] = [] := by rw [mrg]
theorem mrg_lt {x y : Bs} {a b : List Bs} (h : x < y) : mrg (x :: a) (y :: b) = (x, true, false) :: mrg a (y :: b) := by rw [mrg, if_pos h]
theorem mrg_gt {x y : Bs} {a b : List Bs} (h : y < x) : mrg (x :: a) (y :: b) = (y, false, true) :: mrg (x :: a) b := by rw [mrg, if_neg (fun h' => List.lt_irrefl _ (lt_tr h h')), if_pos h]
theorem mrg_eq {x : Bs} {a b : List Bs} : mrg (x :: a) (x :: b) = (x, true, true) :: mrg a b := by rw [mrg, if_neg (List.lt_irrefl _), if_neg (List.lt_irrefl _)]
theorem mrg_len : ∀ (n : Nat) (a b : List Bs), a.length + b.length ≤ n → (mrg a b).length ≤ a.length + b.length := by
  intro n
  induction n with
  | zero =>
    intro a b h
    obtain rfl : a = [] := List.eq_nil_of_length_eq_zero (by omega)
    obtain rfl : b = [] := List.eq_nil_of_length_eq_zero (by omega)
    simp [mrg_nil]
  | succ n ih =>
    intro a b h
    match a, b with
    | [], [] => simp [mrg_nil]
    | x :: a, [] =>
      have := ih a [] (by simp at h ⊢; omega)
      rw [mrg_left]; simp at this ⊢; omega
    | [], y :: b =>
      have := ih [] b (by simp at h ⊢; omega)
      rw [mrg_right]; simp at this ⊢; omega
    | x :: a, y :: b =>
      simp only [List.length_cons] at h ⊢
      by_cases h1 : x < y
      · have := ih a (y :: b) (by simp; omega)
        rw [mrg_lt h1]; simp at this ⊢; omega
      · by_cases h2 : y < x
        · have := ih (x :: a) b (by simp; omega)
          rw [mrg_gt h2]; simp at this ⊢; omega
        · obtain rfl : x = y := Classical.byContradiction fun e => h2 (lt_of_not h1 e)
          have := ih a b (by omega)
          rw [mrg_eq]; simp at this ⊢; omega

theorem up_cons {x : Bs} {a : List Bs} : upS (x :: a) ↔ (∀ z ∈ a, x < z) ∧ upS a := List.pairwise_cons

/-- what the elements of two sets are. -/
def MrgOf (a b : List Bs) (m : List El) : Prop := upS (m.map (·.1)) ∧ ∀ e : El, e ∈ m ↔ (e.1 ∈ a ∨ e.1 ∈ b) ∧ e.2 = (decide (e.1 ∈ a), decide (e.1 ∈ b))

theorem mrg_step {a b a' b' : List Bs} {m : List El} {x : Bs} {p q : Bool} (h : MrgOf a' b' m) (ha : ∀ z, z ∈ a ↔ (p = true ∧ z = x) ∨ z ∈ a') (hb : ∀ z, z ∈ b ↔ (q = true ∧ z = x) ∨ z ∈ b')
    (hpq : p = true ∨ q = true) (la : ∀ z ∈ a', x < z) (lb : ∀ z ∈ b', x < z) : MrgOf a b ((x, p, q) :: m) := by
  obtain ⟨h1, h2⟩ := h
  have na : x ∉ a' := fun h => List.lt_irrefl _ (la x h)
  have nb : x ∉ b' := fun h => List.lt_irrefl _ (lb x h)
  constructor
  · rw [List.map_cons, up_cons]
    refine ⟨fun z hz => ?_, h1⟩
    obtain ⟨e, he, rfl⟩ := List.mem_map.1 hz
    rcases ((h2 e).1 he).1 with h | h
    · exact la _ h
    · exact lb _ h
  · rintro ⟨z, f, g⟩
    simp only [List.mem_cons, h2, ha, hb]
    by_cases e : z = x
    · subst e
      simp only [na, nb, or_false, and_true, false_or, decide_false, false_and, Prod.mk.injEq, true_and]
      constructor
      · rintro ⟨rfl, rfl⟩
        exact ⟨hpq, by simp, by simp⟩
      · rintro ⟨-, rfl, rfl⟩
        exact ⟨by simp, by simp⟩
    · simp [e]

theorem mrg_of : ∀ (n : Nat) (a b : List Bs), a.length + b.length ≤ n → upS a → upS b → MrgOf a b (mrg a b) := by
  intro n
  induction n with
  | zero =>
    intro a b h _ _
    obtain rfl : a = [] := List.eq_nil_of_length_eq_zero (by omega)
    obtain rfl : b = [] := List.eq_nil_of_length_eq_zero (by omega)
    rw [mrg_nil]
    exact ⟨up_nil, by simp⟩
  | succ n ih =>
    intro a b h ha hb
    match a, b, ha, hb with
    | [], [], _, _ =>
      rw [mrg_nil]
      exact ⟨up_nil, by simp⟩
    | x :: a, [], ha, hb =>
      rw [mrg_left]
      obtain ⟨h1, h2⟩ := up_cons.1 ha
      exact mrg_step (ih a [] (by simp at h ⊢; omega) h2 hb) (fun z => by simp) (fun z => by simp) (.inl rfl) h1 (fun z h => by simp at h)
    | [], y :: b, ha, hb =>
      rw [mrg_right]
      obtain ⟨h1, h2⟩ := up_cons.1 hb
      exact mrg_step (ih [] b (by simp at h ⊢; omega) ha h2) (fun z => by simp) (fun z => by simp) (.inr rfl) (fun z h => by simp at h) h1
    | x :: a, y :: b, ha, hb =>
      simp only [List.length_cons] at h
      obtain ⟨a1, a2⟩ := up_cons.1 ha
      obtain ⟨b1, b2⟩ := up_cons.1 hb
      by_cases h1 : x < y
      · rw [mrg_lt h1]
        refine mrg_step (ih a (y :: b) (by simp; omega) a2 hb) (fun z => by simp) (fun z => by simp) (.inl rfl) a1 fun z hz => ?_
        rcases List.mem_cons.1 hz with rfl | hz
        · exact h1
        · exact lt_tr h1 (b1 z hz)
      · by_cases h2 : y < x
        · rw [mrg_gt h2]
          refine mrg_step (ih (x :: a) b (by simp; omega) ha b2) (fun z => by simp) (fun z => by simp) (.inr rfl) (fun z hz => ?_) b1
          rcases List.mem_cons.1 hz with rfl | hz
          · exact h2
          · exact lt_tr h2 (a1 z hz)
        · obtain rfl : x = y := Classical.byContradiction fun e => h2 (lt_of_not h1 e)
          rw [mrg_eq]
          exact mrg_step (ih a b (by omega) a2 b2) (fun z => by simp) (fun z => by simp) (.inl rfl) a1 b1

/-- the elements whose sides are wanted. -/
def selS (f : Bool → Bool → Bool) (a b : List Bs) : List Bs := ((mrg a b).filter fun e => f e.2.1 e.2.2).map (·.1)
theorem sel_up (f : Bool → Bool → Bool) {a b : List Bs} (ha : upS a) (hb : upS b) : upS (selS f a b) := by
  have h := (mrg_of _ a b (Nat.le_refl _) ha hb).1
  unfold selS upS
  unfold upS at h
  rw [List.pairwise_map] at h ⊢
  exact List.Pairwise.filter _ h
theorem mem_sel {f : Bool → Bool → Bool} {a b : List Bs} (ha : upS a) (hb : upS b) {x : Bs} : x ∈ selS f a b ↔ (x ∈ a ∨ x ∈ b) ∧ f (decide (x ∈ a)) (decide (x ∈ b)) = true := by
  have h := (mrg_of _ a b (Nat.le_refl _) ha hb).2
  unfold selS
  simp only [List.mem_map, List.mem_filter]
  constructor
  · rintro ⟨e, ⟨he, hf⟩, rfl⟩
    obtain ⟨h1, h2⟩ := (h e).1 he
    refine ⟨h1, ?_⟩
    rw [h2] at hf
    exact hf
  · rintro ⟨h1, h2⟩
    exact ⟨(x, decide (x ∈ a), decide (x ∈ b)), ⟨(h _).2 ⟨h1, rfl⟩, h2⟩, rfl⟩
theorem sel_len (f : Bool → Bool → Bool) (a b : List Bs) : (selS f a b).length ≤ a.length + b.length := by
  unfold selS
  rw [List.length_map]
  exact Nat.le_trans (List.length_filter_le _ _) (mrg_len _ a b (Nat.le_refl _))

def andF (p q : Bool) : Bool := p && q
def orF (p q : Bool) : Bool := p || q
def notF (p q : Bool) : Bool := p && !q

theorem sel_and {a b : List Bs} (ha : upS a) (hb : upS b) : selS andF a b = a.filter fun x => hasB b x :=
  up_ext (sel_up _ ha hb) (up_filter ha _) fun x => by
    rw [mem_sel ha hb, List.mem_filter, has_iff]
    simp only [andF, Bool.and_eq_true, decide_eq_true_eq]
    constructor
    · exact fun h => h.2
    · exact fun h => ⟨.inl h.1, h⟩
theorem sel_not {a b : List Bs} (ha : upS a) (hb : upS b) : selS notF a b = a.filter fun x => !hasB b x :=
  up_ext (sel_up _ ha hb) (up_filter ha _) fun x => by
    rw [mem_sel ha hb, List.mem_filter, Bool.not_eq_true', has_not]
    simp only [notF, Bool.and_eq_true, decide_eq_true_eq, Bool.not_eq_true', decide_eq_false_iff_not]
    constructor
    · exact fun h => h.2
    · exact fun h => ⟨.inl h.1, h⟩

/-- all together. -/
def uniS (L : List (List Bs)) : List Bs := ofS L.flatten
theorem uni_up (L : List (List Bs)) : upS (uniS L) := of_up _
theorem mem_uni {L : List (List Bs)} {x : Bs} : x ∈ uniS L ↔ ∃ l ∈ L, x ∈ l := by rw [uniS, mem_of, List.mem_flatten]
theorem uni_len (L : List (List Bs)) : (uniS L).length ≤ L.flatten.length := of_len _
theorem uni_nil : uniS [] = [] := rfl
theorem uni_one {l : List Bs} (h : upS l) : uniS [l] = l := by unfold uniS; rw [show [l].flatten = l by simp]; exact of_self h
theorem uni_cut (L : List (List Bs)) (n : Nat) : selS orF (uniS (L.take n)) (uniS (L.drop n)) = uniS L :=
  up_ext (sel_up _ (uni_up _) (uni_up _)) (uni_up _) fun x => by
    rw [mem_sel (uni_up _) (uni_up _)]
    simp only [orF, Bool.or_eq_true, decide_eq_true_eq, and_self, mem_uni]
    conv => rhs; rw [← List.take_append_drop n L]
    simp only [List.mem_append]
    constructor
    · rintro (⟨l, h1, h2⟩ | ⟨l, h1, h2⟩)
      · exact ⟨l, .inl h1, h2⟩
      · exact ⟨l, .inr h1, h2⟩
    · rintro ⟨l, h1 | h1, h2⟩
      · exact .inl ⟨l, h1, h2⟩
      · exact .inr ⟨l, h1, h2⟩

/-- what all have. -/
def bothS : List (List Bs) → List Bs
  | [] => []
  | a :: L => a.filter fun x => L.all fun l => hasB l x
/-- what none of the others has. -/
def minS (a : List Bs) (L : List (List Bs)) : List Bs := a.filter fun x => !L.any fun l => hasB l x
theorem both_up {L : List (List Bs)} (h : ∀ l ∈ L, upS l) : upS (bothS L) := by
  cases L with
  | nil => exact up_nil
  | cons a L => exact up_filter (h a (List.mem_cons_self ..)) _
theorem mem_both {a : List Bs} {L : List (List Bs)} {x : Bs} : x ∈ bothS (a :: L) ↔ x ∈ a ∧ ∀ l ∈ L, x ∈ l := by
  simp [bothS, List.mem_filter, List.all_eq_true, has_iff]
theorem both_one (a : List Bs) : bothS [a] = a := by simp [bothS]
theorem both_more {a : List Bs} {L : List (List Bs)} {l : List Bs} (ha : upS a) (hl : upS l) : selS andF (bothS (a :: L)) l = bothS (a :: (L ++ [l])) := by
  have h : upS (bothS (a :: L)) := up_filter ha _
  rw [sel_and h hl]
  refine up_ext (up_filter h _) (up_filter ha _) fun x => ?_
  rw [List.mem_filter, has_iff, mem_both]
  show _ ↔ x ∈ bothS (a :: (L ++ [l]))
  rw [mem_both]
  simp only [List.mem_append, List.mem_singleton]
  constructor
  · rintro ⟨⟨h1, h2⟩, h3⟩
    exact ⟨h1, fun m hm => by
      rcases hm with hm | rfl
      · exact h2 m hm
      · exact h3⟩
  · rintro ⟨h1, h2⟩
    exact ⟨⟨h1, fun m hm => h2 m (.inl hm)⟩, h2 l (.inr rfl)⟩
theorem min_up {a : List Bs} (L : List (List Bs)) (h : upS a) : upS (minS a L) := up_filter h _
theorem mem_min {a : List Bs} {L : List (List Bs)} {x : Bs} : x ∈ minS a L ↔ x ∈ a ∧ ∀ l ∈ L, x ∉ l := by
  simp [minS, List.mem_filter, has_not]
theorem min_uni {a : List Bs} {L : List (List Bs)} (ha : upS a) : selS notF a (uniS L) = minS a L := by
  rw [sel_not ha (uni_up L)]
  refine up_ext (up_filter ha _) (min_up L ha) fun x => ?_
  rw [List.mem_filter, Bool.not_eq_true', has_not, mem_uni, mem_min]
  constructor
  · rintro ⟨h1, h2⟩
    exact ⟨h1, fun l hl hx => h2 ⟨l, hl, hx⟩⟩
  · rintro ⟨h1, h2⟩
    exact ⟨h1, fun ⟨l, hl, hx⟩ => h2 l hl hx⟩
end St
end Go.Proofs.Ytekdmnecjgpokaa
