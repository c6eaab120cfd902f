/- Items as plain data: which may be, and the reference's way to say so. No program in it. -/
import Derived.Laws.Strings
namespace Go.Proofs.Ytihleddhjmejoaa
namespace It
/-- an item. -/
structure I where
  kind : Int
  s : List UInt8
  f : List (List UInt8 × List UInt8)
  l : List (List UInt8)
  exp : Int

theorem getD_eq {α : Type} {l : List α} {d : α} {k : Nat} (h : k < l.length) : l.getD k d = l[k] := by simp [List.getD, h]

/-- each is greater than the one before it. -/
def risB (l : List (List UInt8)) : Bool := (List.range l.length).all fun k => k == 0 || decide (l.getD (k - 1) [] < l.getD k [])

theorem risB_iff (l : List (List UInt8)) : risB l = true ↔ ∀ k, k < l.length → 0 < k → l.getD (k - 1) [] < l.getD k [] := by
  simp only [risB, List.all_eq_true, List.mem_range, Bool.or_eq_true, beq_iff_eq, decide_eq_true_eq]
  exact ⟨fun h k hk h0 => (h k hk).resolve_left (by omega), fun h k hk => by
    by_cases h0 : k = 0
    · exact .inl h0
    · exact .inr (h k hk (by omega))⟩

theorem getD_app {α : Type} {d : α} (l r : List α) {k : Nat} (h : k < l.length) : (l ++ r).getD k d = l.getD k d := by
  simp [List.getD, List.getElem?_append, h]
theorem getD_last {α : Type} {d : α} (l r : List α) (x : α) : (l ++ x :: r).getD l.length d = x := by
  simp [List.getD]

/-- the last one, if there is one. -/
def lastS (l : List (List UInt8)) : List UInt8 := l.getD (l.length - 1) []
theorem lastS_snoc (l : List (List UInt8)) (x : List UInt8) : lastS (l ++ [x]) = x := by
  unfold lastS
  simp [List.getD]

theorem risB_snoc (l : List (List UInt8)) (x : List UInt8) : risB (l ++ [x]) = (risB l && (l.isEmpty || decide (lastS l < x))) := by
  rw [Bool.eq_iff_iff, risB_iff, Bool.and_eq_true, risB_iff, Bool.or_eq_true, decide_eq_true_eq, List.isEmpty_iff]
  constructor
  · intro h
    refine ⟨fun k hk h0 => ?_, ?_⟩
    · have := h k (by simp; omega) h0
      rwa [getD_app _ _ hk, getD_app _ _ (by omega)] at this
    · by_cases hl : l = []
      · exact .inl hl
      · right
        have hp : 0 < l.length := List.length_pos_iff.2 hl
        have := h l.length (by simp) hp
        rwa [getD_app _ _ (by omega), getD_last] at this
  · rintro ⟨h1, h2⟩ k hk h0
    rw [List.length_append, List.length_singleton] at hk
    by_cases hk' : k < l.length
    · rw [getD_app _ _ hk', getD_app _ _ (by omega)]
      exact h1 k hk' h0
    · obtain rfl : k = l.length := by omega
      rw [getD_app _ _ (by omega), getD_last]
      rcases h2 with rfl | h2
      · simp at h0
      · exact h2

theorem risB_prefix {p l : List (List UInt8)} (h : p <+: l) (hp : risB p = false) : risB l = false := by
  cases hl : risB l with
  | false => rfl
  | true =>
    obtain ⟨r, rfl⟩ := h
    rw [risB_iff] at hl
    have : risB p = true := by
      rw [risB_iff]
      intro k hk h0
      have := hl k (by simp; omega) h0
      rwa [getD_app _ _ hk, getD_app _ _ (by omega)] at this
    rw [this] at hp
    cases hp

/-- not less: not less, not one. -/
theorem not_lt (a b : List UInt8) : (decide (a < b) || a == b) = !decide (b < a) := by
  rw [Bool.eq_iff_iff]
  simp only [Bool.or_eq_true, decide_eq_true_eq, beq_iff_eq, Bool.not_eq_true', decide_eq_false_iff_not]
  constructor
  · rintro (h | rfl)
    · exact List.lt_asymm h
    · exact List.lt_irrefl _
  · intro h
    have h1 : a ≤ b := h
    rcases Std.le_iff_lt_or_eq.1 h1 with h | h
    · exact .inl h
    · exact .inr h

def names (i : I) : List (List UInt8) := i.f.map (·.1)
def countB (n : Nat) : Bool := decide (1 ≤ n) && decide (n ≤ 40)
/-- all texts of an item. -/
def fieldsS (f : List (List UInt8 × List UInt8)) : List (List UInt8) := f.flatMap fun p => [p.1, p.2]
def textsS (i : I) : List (List UInt8) := i.s :: (fieldsS i.f ++ i.l)

def fitsB (i : I) : Bool :=
  if i.kind = 1 then decide (i.f.length = 0) && decide (i.l.length = 0)
  else if i.kind = 2 then decide (i.s.length = 0) && countB i.f.length && risB (names i) && decide (i.l.length = 0)
  else if i.kind = 3 then decide (i.s.length = 0) && decide (i.f.length = 0) && countB i.l.length
  else if i.kind = 4 then decide (i.s.length = 0) && decide (i.f.length = 0) && countB i.l.length && risB i.l
  else false

/-- may an item be? -/
def mayB (i : I) : Bool := decide (0 ≤ i.exp) && decide (i.exp ≤ 9007199254740992) && fitsB i && (textsS i).all fun s => decide (s.length ≤ 300)

/-- .. as the reference says it. -/
def bareB (i : I) : Bool :=
  if i.kind = 1 then decide (i.f.length = 0) && decide (i.l.length = 0)
  else if i.kind = 2 then decide (i.s.length = 0) && decide (i.l.length = 0) && decide (0 < i.f.length)
  else if i.kind = 3 ∨ i.kind = 4 then decide (i.s.length = 0) && decide (i.f.length = 0) && decide (0 < i.l.length)
  else false
def headB (i : I) : Bool := bareB i && decide (i.s.length ≤ 300) && decide (i.f.length ≤ 40) && decide (i.l.length ≤ 40) && decide (0 ≤ i.exp) && decide (i.exp ≤ 9007199254740992)
def fieldB (i : I) (k : Nat) : Bool := decide ((i.f.getD k ([], [])).1.length ≤ 300) && decide ((i.f.getD k ([], [])).2.length ≤ 300) && (k == 0 || decide ((i.f.getD (k - 1) ([], [])).1 < (i.f.getD k ([], [])).1))
def elemB (i : I) (k : Nat) : Bool := decide ((i.l.getD k []).length ≤ 300) && (!decide (i.kind = 4) || k == 0 || decide (i.l.getD (k - 1) [] < i.l.getD k []))
def refMayB (i : I) : Bool := headB i && (List.range i.f.length).all (fieldB i) && (List.range i.l.length).all (elemB i)

theorem names_getD (i : I) (k : Nat) : (names i).getD k [] = (i.f.getD k ([], [])).1 := by
  unfold names
  simp only [List.getD, List.getElem?_map]
  cases i.f[k]? <;> rfl

theorem all_range {α : Type} (l : List α) (d : α) (p : α → Bool) : ((List.range l.length).all fun k => p (l.getD k d)) = l.all p := by
  rw [Bool.eq_iff_iff]
  simp only [List.all_eq_true, List.mem_range]
  constructor
  · intro h x hx
    obtain ⟨k, hk, rfl⟩ := List.getElem_of_mem hx
    have := h k hk
    rwa [getD_eq hk] at this
  · intro h k hk
    rw [getD_eq hk]
    exact h _ (List.getElem_mem hk)

theorem all_and {α : Type} (l : List α) (p q : α → Bool) : (l.all fun x => p x && q x) = (l.all p && l.all q) := by
  induction l with
  | nil => rfl
  | cons x l ih => simp only [List.all_cons, ih]; cases p x <;> cases q x <;> simp

theorem fields_all (f : List (List UInt8 × List UInt8)) (p : List UInt8 → Bool) : (fieldsS f).all p = f.all fun x => p x.1 && p x.2 := by
  induction f with
  | nil => rfl
  | cons x f ih => simp only [fieldsS, List.flatMap_cons, List.all_append, List.all_cons, List.all_nil, Bool.and_true] at ih ⊢; rw [ih]

theorem fieldsB_all (i : I) : (List.range i.f.length).all (fieldB i) = ((fieldsS i.f).all (fun s => decide (s.length ≤ 300)) && risB (names i)) := by
  have e : (List.range i.f.length).all (fieldB i) = ((List.range i.f.length).all (fun k => (fun x : List UInt8 × List UInt8 => decide (x.1.length ≤ 300) && decide (x.2.length ≤ 300)) (i.f.getD k ([], []))) && risB (names i)) := by
    rw [risB, show (names i).length = i.f.length from List.length_map _, ← all_and]
    congr 1
    funext k
    rw [names_getD, names_getD]
    rfl
  rw [e, all_range i.f ([], []) (fun x => decide (x.1.length ≤ 300) && decide (x.2.length ≤ 300)), fields_all]

theorem elemsB_all (i : I) : (List.range i.l.length).all (elemB i) = (i.l.all (fun s => decide (s.length ≤ 300)) && (!decide (i.kind = 4) || risB i.l)) := by
  have e : (List.range i.l.length).all (elemB i) = ((List.range i.l.length).all (fun k => (fun x : List UInt8 => decide (x.length ≤ 300)) (i.l.getD k [])) && (List.range i.l.length).all (fun k => !decide (i.kind = 4) || (k == 0 || decide (i.l.getD (k - 1) [] < i.l.getD k [])))) := by
    rw [← all_and]
    congr 1
    funext k
    simp only [elemB, Bool.or_assoc]
  rw [e, all_range i.l [] (fun x => decide (x.length ≤ 300))]
  congr 1
  by_cases h : i.kind = 4
  · simp [h, risB]
  · simp [h]

theorem ref_may (i : I) : refMayB i = mayB i := by
  unfold refMayB mayB
  rw [fieldsB_all, elemsB_all]
  simp only [textsS, List.all_cons, List.all_append]
  obtain ⟨kind, s, f, l, exp⟩ := i
  try dsimp only
  generalize hF : (fieldsS f).all (fun s => decide (s.length ≤ 300)) = bF
  generalize hL : l.all (fun s => decide (s.length ≤ 300)) = bL
  have hF0 : f.length = 0 → bF = true := fun h => by rw [← hF, List.eq_nil_of_length_eq_zero h]; rfl
  have hL0 : l.length = 0 → bL = true := fun h => by rw [← hL, List.eq_nil_of_length_eq_zero h]; rfl
  have hR0 : f.length = 0 → risB (names ⟨kind, s, f, l, exp⟩) = true := fun h => by rw [names, List.eq_nil_of_length_eq_zero h]; rfl
  have hR1 : l.length = 0 → risB l = true := fun h => by rw [List.eq_nil_of_length_eq_zero h]; rfl
  simp only [headB, bareB, fitsB, countB] at *
  generalize risB (names ⟨kind, s, f, l, exp⟩) = bN at *
  generalize risB l = bR at *
  by_cases h1 : kind = 1
  · subst h1
    rw [Bool.eq_iff_iff]
    simp only [if_true, Bool.and_eq_true, decide_eq_true_eq, Bool.or_eq_true, Bool.not_eq_true', decide_eq_false_iff_not]
    constructor
    · rintro ⟨⟨⟨⟨⟨⟨⟨⟨a1, a2⟩, a3⟩, a4⟩, a5⟩, a6⟩, a7⟩, a8, a9⟩, a10, a11⟩
      exact ⟨⟨⟨a6, a7⟩, a1, a2⟩, a3, a8, a10⟩
    · rintro ⟨⟨⟨a6, a7⟩, a1, a2⟩, a3, a8, a10⟩
      exact ⟨⟨⟨⟨⟨⟨⟨⟨a1, a2⟩, a3⟩, by omega⟩, by omega⟩, a6⟩, a7⟩, a8, hR0 a1⟩, a10, by omega⟩
  by_cases h2 : kind = 2
  · subst h2
    rw [Bool.eq_iff_iff]
    simp only [if_true, if_neg h1, Bool.and_eq_true, decide_eq_true_eq, Bool.or_eq_true, Bool.not_eq_true', decide_eq_false_iff_not]
    constructor
    · rintro ⟨⟨⟨⟨⟨⟨⟨⟨⟨a1, a2⟩, a2'⟩, a3⟩, a4⟩, a5⟩, a6⟩, a7⟩, a8, a9⟩, a10, a11⟩
      exact ⟨⟨⟨a6, a7⟩, ⟨⟨a1, by omega, a4⟩, a9⟩, a2⟩, a3, a8, a10⟩
    · rintro ⟨⟨⟨a6, a7⟩, ⟨⟨a1, a1', a4⟩, a9⟩, a2⟩, a3, a8, a10⟩
      exact ⟨⟨⟨⟨⟨⟨⟨⟨⟨a1, a2⟩, by omega⟩, a3⟩, a4⟩, by omega⟩, a6⟩, a7⟩, a8, a9⟩, a10, by omega⟩
  by_cases h3 : kind = 3
  · subst h3
    rw [Bool.eq_iff_iff]
    simp only [if_true, if_neg h1, if_neg h2, true_or, Bool.and_eq_true, decide_eq_true_eq, Bool.or_eq_true, Bool.not_eq_true', decide_eq_false_iff_not]
    constructor
    · rintro ⟨⟨⟨⟨⟨⟨⟨⟨⟨a1, a2⟩, a2'⟩, a3⟩, a4⟩, a5⟩, a6⟩, a7⟩, a8, a9⟩, a10, a11⟩
      exact ⟨⟨⟨a6, a7⟩, ⟨⟨a1, a2⟩, by omega, a5⟩⟩, a3, a8, a10⟩
    · rintro ⟨⟨⟨a6, a7⟩, ⟨⟨a1, a2⟩, a1', a5⟩⟩, a3, a8, a10⟩
      exact ⟨⟨⟨⟨⟨⟨⟨⟨⟨a1, a2⟩, by omega⟩, a3⟩, by omega⟩, a5⟩, a6⟩, a7⟩, a8, hR0 a2⟩, a10, by omega⟩
  by_cases h4 : kind = 4
  · subst h4
    rw [Bool.eq_iff_iff]
    simp only [if_true, if_neg h1, if_neg h2, if_neg h3, or_true, Bool.and_eq_true, decide_eq_true_eq, Bool.or_eq_true, Bool.not_eq_true', decide_eq_false_iff_not]
    constructor
    · rintro ⟨⟨⟨⟨⟨⟨⟨⟨⟨a1, a2⟩, a2'⟩, a3⟩, a4⟩, a5⟩, a6⟩, a7⟩, a8, a9⟩, a10, a11⟩
      exact ⟨⟨⟨a6, a7⟩, ⟨⟨a1, a2⟩, by omega, a5⟩, a11.resolve_left (fun h => h trivial)⟩, a3, a8, a10⟩
    · rintro ⟨⟨⟨a6, a7⟩, ⟨⟨a1, a2⟩, a1', a5⟩, a11⟩, a3, a8, a10⟩
      exact ⟨⟨⟨⟨⟨⟨⟨⟨⟨a1, a2⟩, by omega⟩, a3⟩, by omega⟩, a5⟩, a6⟩, a7⟩, a8, hR0 a2⟩, a10, .inr a11⟩
  · simp [h1, h2, h3, h4]

/-- is an item alive? -/
def aliveB (i : I) (n : Int) : Bool := decide (i.exp = 0) || decide (n < i.exp)
/-- the name of a kind. -/
def typeS (k : Int) : List UInt8 :=
  if k = 1 then [115, 116, 114, 105, 110, 103] else if k = 2 then [104, 97, 115, 104] else if k = 3 then [108, 105, 115, 116] else if k = 4 then [115, 101, 116] else [110, 111, 110, 101]
/-- are two equal? -/
def sameB (a b : I) : Bool := decide (a.kind = b.kind) && decide (a.s = b.s) && decide (a.f = b.f) && decide (a.l = b.l) && decide (a.exp = b.exp)

theorem same_self (a : I) : sameB a a = true := by simp [sameB]
end It
end Go.Proofs.Ytihleddhjmejoaa
