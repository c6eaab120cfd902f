/- Plain mathematics of claims (chapter 13): who has a slot, which lists are valid, that a valid list is told by who has what. No program in it. What is told of a []byte that came in; bytes of strings. For any seat. -/
import Derived.Test.YtahmddopbmjepaaDoorProg
import Derived.Below
import Derived.BigQuiet
import Derived.Deep.Cut
import Derived.Deep.CutRange
import Derived.Deep.DeepCutAuto
import Derived.Deep.DeepFit
import Derived.IntWalk
import Derived.Laws.BitsAllLaws
import Derived.Laws.IdiomStrings
import Derived.Lib.Hide
import Derived.LoopNIn
import Derived.LoopTactic
import Derived.Maps.OwnIn
import Derived.Outline
import Derived.OwnWalkIn
import Derived.RangeFuncRecord
import Derived.Shelf.Abstract
import Derived.TacticsInMore
import Derived.WalkKit
import Derived.WalkLawsBesides
import Derived.WalkMore
import Derived.WalkSpells
namespace Go.Proofs.YtahmddopbmjepaaDoor
namespace Ow

/-- a claim: from, to, node, epoch. -/
structure C where
  f : Int
  t : Int
  n : Int
  e : Int
deriving DecidableEq

/-- an owner: node, epoch. -/
abbrev O := Int × Int

def z : C := ⟨0, 0, 0, 0⟩

def inC (k : Int) (c : C) : Bool := decide (c.f ≤ k) && decide (k ≤ c.t)

theorem inC_iff {k : Int} {c : C} : inC k c = true ↔ c.f ≤ k ∧ k ≤ c.t := by simp [inC]
theorem inC_not {k : Int} {c : C} : inC k c = false ↔ k < c.f ∨ c.t < k := by
  rw [← Bool.not_eq_true, inC_iff]; omega

/-- who has the slot? -/
def own : List C → Int → Option O
  | [], _ => none
  | c :: r, k => if inC k c then some (c.n, c.e) else own r k

/-- does the second claim say of the next slots what the first says? -/
def touch (b c : C) : Bool := decide (c.f = b.t + 1) && decide (c.n = b.n) && decide (c.e = b.e)

theorem touch_iff {b c : C} : touch b c = true ↔ c.f = b.t + 1 ∧ c.n = b.n ∧ c.e = b.e := by simp [touch, and_assoc]

def okC (c : C) : Prop := 0 ≤ c.f ∧ c.f ≤ c.t ∧ c.t < 16384 ∧ 0 ≤ c.n ∧ c.n < 8 ∧ 1 ≤ c.e ∧ c.e ≤ 9007199254740992

instance (c : C) : Decidable (okC c) := by unfold okC; exact inferInstance

/-- may a list stand so? -/
def VL : List C → Prop
  | [] => True
  | [c] => okC c
  | b :: c :: r => okC b ∧ b.t < c.f ∧ touch b c = false ∧ VL (c :: r)

theorem VL.head {b : C} {r : List C} (h : VL (b :: r)) : okC b := by
  cases r with
  | nil => exact h
  | cons c r => exact h.1

theorem VL.tail {b : C} {r : List C} (h : VL (b :: r)) : VL r := by
  cases r with
  | nil => exact trivial
  | cons c r => exact h.2.2.2

theorem VL.all : ∀ {l : List C}, VL l → ∀ c ∈ l, okC c
  | [], _, c, hc => by simp at hc
  | b :: r, h, c, hc => by
    rcases List.mem_cons.1 hc with rfl | hc
    · exact h.head
    · exact VL.all h.tail c hc

theorem VL.okAt2 {l : List C} (h : VL l) {k : Nat} (hk : k < l.length) : okC (l.getD k z) := by
  have e : l.getD k z = l[k] := by simp [List.getD, hk]
  rw [e]
  exact h.all _ (List.getElem_mem hk)

theorem VL.behind : ∀ {r : List C} {b : C}, VL (b :: r) → ∀ c ∈ r, b.t < c.f
  | [], b, _, c, hc => by simp at hc
  | d :: r, b, h, c, hc => by
    have h1 := h.2.1
    rcases List.mem_cons.1 hc with rfl | hc
    · exact h1
    · have h2 := VL.behind h.tail c hc
      have h3 := h.tail.head
      unfold okC at h3
      omega

theorem own_none : ∀ {l : List C} {k : Int}, (∀ c ∈ l, inC k c = false) → own l k = none
  | [], _, _ => rfl
  | c :: r, k, h => by
    have h1 := h c (by simp)
    simp only [own, h1, Bool.false_eq_true, if_false]
    exact own_none fun d hd => h d (by simp [hd])

theorem own_some : ∀ {l : List C} {k : Int} {o : O}, own l k = some o → ∃ c ∈ l, inC k c = true ∧ o = (c.n, c.e)
  | [], _, _, h => by simp [own] at h
  | c :: r, k, o, h => by
    by_cases hc : inC k c = true
    · simp only [own, hc, if_true, Option.some.injEq] at h
      exact ⟨c, by simp, hc, h.symm⟩
    · simp only [own, hc, if_false, Bool.false_eq_true] at h
      obtain ⟨d, hd, h1, h2⟩ := own_some h
      exact ⟨d, by simp [hd], h1, h2⟩

theorem own_of : ∀ {l : List C}, VL l → ∀ {k : Int} {c : C}, c ∈ l → inC k c = true → own l k = some (c.n, c.e)
  | [], _, _, c, hc, _ => by simp at hc
  | b :: r, h, k, c, hc, hk => by
    rcases List.mem_cons.1 hc with rfl | hc
    · simp [own, hk]
    · have h1 := h.behind c hc
      rw [inC_iff] at hk
      have h2 : inC k b = false := inC_not.2 (by omega)
      simp only [own, h2, Bool.false_eq_true, if_false]
      exact own_of h.tail hc (inC_iff.2 hk)

theorem own_low {b : C} {r : List C} (h : VL (b :: r)) {k : Int} (hk : k < b.f) : own (b :: r) k = none := by
  refine own_none fun c hc => inC_not.2 ?_
  rcases List.mem_cons.1 hc with rfl | hc
  · exact .inl hk
  · have := h.behind c hc
    have := h.head
    unfold okC at this
    omega

theorem own_range {l : List C} (h : VL l) {k : Int} {o : O} (hk : own l k = some o) : 0 ≤ k ∧ k < 16384 ∧ 0 ≤ o.1 ∧ o.1 < 8 ∧ 1 ≤ o.2 ∧ o.2 ≤ 9007199254740992 := by
  obtain ⟨c, hc, h1, rfl⟩ := own_some hk
  have h2 := h.all c hc
  rw [inC_iff] at h1
  unfold okC at h2
  simp only
  omega

/-- behind the first claim's end. -/
theorem own_tail {b : C} {r : List C} {k : Int} (hk : b.t < k) : own (b :: r) k = own r k := by
  have h1 : inC k b = false := inC_not.2 (by omega)
  simp [own, h1]

theorem own_first {b : C} {r : List C} {k : Int} (h1 : b.f ≤ k) (h2 : k ≤ b.t) : own (b :: r) k = some (b.n, b.e) := by
  have h3 : inC k b = true := inC_iff.2 ⟨h1, h2⟩
  simp [own, h3]

/-- two valid lists by which each slot is the same one's are one. -/
theorem VL.unique : ∀ {l m : List C}, VL l → VL m → (∀ k, 0 ≤ k → k < 16384 → own l k = own m k) → l = m
  | [], [], _, _, _ => rfl
  | [], t :: r, _, hm, h => by
    have ht := hm.head
    unfold okC at ht
    have := h t.f (by omega) (by omega)
    rw [own_first (by omega) (by omega)] at this
    simp [own] at this
  | s :: l, [], hl, _, h => by
    have hs := hl.head
    unfold okC at hs
    have := h s.f (by omega) (by omega)
    rw [own_first (by omega) (by omega)] at this
    simp [own] at this
  | s :: l, t :: r, hl, hm, h => by
    have hs := hl.head
    have ht := hm.head
    unfold okC at hs ht
    have lo : ∀ (s t : C) (l r : List C), VL (s :: l) → VL (t :: r) → (∀ k, 0 ≤ k → k < 16384 → own (s :: l) k = own (t :: r) k) → ¬ t.f < s.f := by
      intro s t l r hl hm h hlt
      have ht := hm.head
      unfold okC at ht
      have := h t.f (by omega) (by omega)
      rw [own_first (b := t) (by omega) (by omega), own_low hl hlt] at this
      simp at this
    have e1 : s.f = t.f := by
      have a := lo s t l r hl hm h
      have b := lo t s r l hm hl (fun k h0 h1 => (h k h0 h1).symm)
      omega
    have e3 : s.n = t.n ∧ s.e = t.e := by
      have := h s.f (by omega) (by omega)
      rw [own_first (b := s) (by omega) (by omega), own_first (b := t) (by omega) (by omega)] at this
      simpa using this
    have hi : ∀ (s t : C) (l r : List C), VL (s :: l) → VL (t :: r) → s.f = t.f → s.n = t.n ∧ s.e = t.e → (∀ k, 0 ≤ k → k < 16384 → own (s :: l) k = own (t :: r) k) → ¬ s.t < t.t := by
      intro s t l r hl hm he hne h hlt
      have hs := hl.head
      have ht := hm.head
      unfold okC at hs ht
      have h2 := h (s.t + 1) (by omega) (by omega)
      rw [own_tail (by omega), own_first (b := t) (by omega) (by omega)] at h2
      cases l with
      | nil => simp [own] at h2
      | cons u l =>
        have hu := hl.tail.head
        unfold okC at hu
        by_cases hf : u.f ≤ s.t + 1
        · have h3 := hl.2.1
          rw [own_first (by omega) (by omega)] at h2
          simp only [Option.some.injEq, Prod.mk.injEq] at h2
          have h4 := hl.2.2.1
          have h5 : touch s u = true := touch_iff.2 ⟨by omega, by omega, by omega⟩
          rw [h5] at h4
          exact absurd h4 (by simp)
        · rw [own_low hl.tail (by omega)] at h2
          simp at h2
    have e2 : s.t = t.t := by
      have a := hi s t l r hl hm e1 e3 h
      have b := hi t s r l hm hl e1.symm ⟨e3.1.symm, e3.2.symm⟩ (fun k h0 h1 => (h k h0 h1).symm)
      omega
    have es : s = t := by
      cases s; cases t; simp_all
    subst es
    have : l = r := by
      refine VL.unique hl.tail hm.tail (fun k h0 h1 => ?_)
      by_cases hk : k ≤ s.t
      · have a : ∀ q : List C, VL (s :: q) → own q k = none := by
          intro q hq
          refine own_none fun c hc => inC_not.2 ?_
          have := hq.behind c hc
          omega
        rw [a l hl, a r hm]
      · have := h k h0 h1
        rwa [own_tail (by omega), own_tail (by omega)] at this
    rw [this]

/-- a claim behind the last one, or as a part of it. -/
def more : List C → C → List C
  | [], c => [c]
  | [b], c => if touch b c then [{ b with t := c.t }] else [b, c]
  | b :: d :: r, c => b :: more (d :: r) c

theorem more_snoc (c : C) (b : C) : ∀ l : List C, more (l ++ [b]) c = if touch b c then l ++ [{ b with t := c.t }] else l ++ [b, c]
  | [] => by simp [more]
  | [x] => by
    simp only [List.cons_append, List.nil_append, more]
    split <;> rfl
  | x :: y :: r => by
    have := more_snoc c b (y :: r)
    simp only [List.cons_append, more] at this ⊢
    rw [this]
    split <;> rfl

theorem more_len (c : C) : ∀ l : List C, (more l c).length ≤ l.length + 1
  | [] => by simp [more]
  | [b] => by simp only [more]; split <;> simp
  | b :: d :: r => by
    have := more_len c (d :: r)
    simp only [more, List.length_cons] at this ⊢
    omega

theorem more_ne (c : C) (l : List C) : more l c ≠ [] := by
  match l with
  | [] => simp [more]
  | [b] => simp only [more]; split <;> simp
  | b :: d :: r => simp [more]

/-- more keeps a list valid and tells one stretch more. -/
theorem more_ok : ∀ {l : List C} {c : C}, VL l → okC c → (∀ b ∈ l, b.t < c.f) → VL (more l c) ∧ (∀ k, own (more l c) k = if inC k c then some (c.n, c.e) else own l k) ∧ (∀ b ∈ more l c, b.t ≤ c.t) ∧
    (∀ b ∈ (more l c).head?, ∀ a ∈ (l ++ [c]).head?, b.f = a.f ∧ b.n = a.n ∧ b.e = a.e)
  | [], c, _, hc, _ => by
    refine ⟨hc, fun k => by simp [more, own], fun b hb => ?_, ?_⟩
    · simp [more] at hb; subst hb; exact Int.le_refl _
    · simp [more]
  | [b], c, hl, hc, hb => by
    have h1 := hb b (by simp)
    have h2 : okC b := hl
    by_cases ht : touch b c = true
    · have h3 := touch_iff.1 ht
      simp only [more, ht, if_true]
      unfold okC at h2 hc
      refine ⟨?_, fun k => ?_, fun d hd => ?_, ?_⟩
      · show okC _
        unfold okC
        simp only
        omega
      · simp only [own]
        by_cases hk : inC k c = true
        · have h4 := inC_iff.1 hk
          rw [if_pos hk, if_pos (inC_iff.2 (by simp only; omega)), h3.2.1, h3.2.2]
        · rw [if_neg hk]
          by_cases hk2 : inC k b = true
          · have h4 := inC_iff.1 hk2
            rw [if_pos hk2, if_pos (inC_iff.2 (by simp only; omega))]
          · rw [if_neg hk2, if_neg]
            intro h5
            have h6 := inC_iff.1 h5
            simp only at h6
            have h7 := inC_not.1 (Bool.eq_false_iff.2 hk)
            have h8 := inC_not.1 (Bool.eq_false_iff.2 hk2)
            omega
      · simp at hd
        subst hd
        exact Int.le_refl _
      · simp
    · simp only [more, ht, if_false, Bool.false_eq_true]
      refine ⟨⟨h2, h1, by simpa using ht, hc⟩, fun k => ?_, fun d hd => ?_, by simp⟩
      · simp only [own]
        by_cases hk : inC k c = true
        · have h4 := inC_iff.1 hk
          rw [if_pos hk, if_neg, if_pos hk]
          intro h5
          have h6 := inC_iff.1 h5
          omega
        · simp [hk]
      · unfold okC at h2 hc
        simp at hd
        rcases hd with rfl | rfl <;> omega
  | b :: d :: r, c, hl, hc, hb => by
    obtain ⟨i1, i2, i3, i4⟩ := more_ok (l := d :: r) (c := c) hl.tail hc (fun x hx => hb x (by simp [hx]))
    have h1 := hb b (by simp)
    simp only [more]
    refine ⟨?_, fun k => ?_, fun x hx => ?_, by simp⟩
    · cases hm : more (d :: r) c with
      | nil => exact absurd hm (more_ne c _)
      | cons y q =>
        rw [hm] at i1 i4
        have h5 := i4 y (by simp) d (by simp)
        refine ⟨hl.head, by rw [h5.1]; exact hl.2.1, ?_, i1⟩
        have h6 := hl.2.2.1
        unfold touch at h6 ⊢
        rw [h5.1, h5.2.1, h5.2.2]
        exact h6
    · simp only [own]
      rw [i2 k]
      by_cases hk : inC k c = true
      · have h4 := inC_iff.1 hk
        rw [if_pos hk, if_neg, if_pos hk]
        intro h5
        have h6 := inC_iff.1 h5
        omega
      · simp only [hk, if_false, Bool.false_eq_true, own]
    · rcases List.mem_cons.1 hx with rfl | hx
      · have := hc
        unfold okC at this
        omega
      · exact i3 x hx

/-- a list tells of each slot below n whose it is. -/
def Told (g : Int → Option O) (l : List C) (n : Int) : Prop :=
  VL l ∧ (∀ c ∈ l, c.t < n) ∧ ∀ k, 0 ≤ k → k < n → own l k = g k

theorem Told.nil (g : Int → Option O) (n : Int) (h : ∀ k, 0 ≤ k → k < n → g k = none) : Told g [] n := ⟨trivial, by simp, fun k h0 h1 => by rw [h k h0 h1]; rfl⟩

theorem Told.skip {g : Int → Option O} {l : List C} {n m : Int} (h : Told g l n) (hn : n ≤ m) (hg : ∀ k, n ≤ k → k < m → g k = none) : Told g l m := by
  refine ⟨h.1, fun c hc => by have := h.2.1 c hc; omega, fun k h0 h1 => ?_⟩
  by_cases hk : k < n
  · exact h.2.2 k h0 hk
  · rw [hg k (by omega) h1]
    refine own_none fun c hc => inC_not.2 ?_
    have := h.2.1 c hc
    omega

theorem Told.more {g : Int → Option O} {l : List C} {n m : Int} {o : O} (h : Told g l n) (hn : 0 ≤ n) (hm : n ≤ m) (hm2 : m < 16384) (ho : 0 ≤ o.1 ∧ o.1 < 8 ∧ 1 ≤ o.2 ∧ o.2 ≤ 9007199254740992) (hg : ∀ k, n ≤ k → k ≤ m → g k = some o) : Told g (more l ⟨n, m, o.1, o.2⟩) (m + 1) := by
  have hc : okC ⟨n, m, o.1, o.2⟩ := by unfold okC; simp only; omega
  obtain ⟨h1, h2, h3, _⟩ := more_ok h.1 hc (fun b hb => by have := h.2.1 b hb; simp only; omega)
  refine ⟨h1, fun c hc => by have := h3 c hc; simp only at this; omega, fun k h0 hk => ?_⟩
  rw [h2 k]
  by_cases hi : inC k ⟨n, m, o.1, o.2⟩ = true
  · have h4 := inC_iff.1 hi
    simp only at h4
    rw [if_pos hi, hg k h4.1 h4.2]
  · have h4 := inC_not.1 (Bool.eq_false_iff.2 hi)
    simp only at h4
    rw [if_neg hi]
    exact h.2.2 k h0 (by omega)

theorem Told.whole {g g' : Int → Option O} {l m : List C} (h : Told g l 16384) (h' : Told g' m 16384) (hg : ∀ k, 0 ≤ k → k < 16384 → g k = g' k) : l = m :=
  VL.unique h.1 h'.1 fun k h0 h1 => by rw [h.2.2 k h0 h1, h'.2.2 k h0 h1, hg k h0 h1]

theorem told_self {l : List C} (h : VL l) : Told (own l) l 16384 := ⟨h, fun c hc => by have := h.all c hc; unfold okC at this; omega, fun _ _ _ => rfl⟩

/-- is a list valid, as the document says it? -/
def okAt (l : List C) (k : Nat) : Prop :=
  okC (l.getD k z) ∧ (0 < k → (l.getD (k - 1) z).t < (l.getD k z).f ∧ touch (l.getD (k - 1) z) (l.getD k z) = false)

instance (l : List C) (k : Nat) : Decidable (okAt l k) := by unfold okAt; exact inferInstance

def mayB (l : List C) : Bool := (List.range l.length).all fun k => decide (okAt l k)

theorem mayB_true {l : List C} (h : ∀ k, k < l.length → okAt l k) : mayB l = true := by
  unfold mayB
  rw [List.all_eq_true]
  intro k hk
  simp at hk
  simpa using h k hk

theorem mayB_false {l : List C} {k : Nat} (hk : k < l.length) (h : ¬ okAt l k) : mayB l = false := by
  unfold mayB
  rw [List.all_eq_false]
  exact ⟨k, by simpa using hk, by simpa using h⟩

theorem vl_of : ∀ {l : List C}, (∀ k, k < l.length → okAt l k) → VL l
  | [], _ => trivial
  | [c], h => (h 0 (by simp)).1
  | b :: c :: r, h => by
    have h0 := h 0 (by simp)
    have h1 := h 1 (by simp)
    have h2 := h1.2 (by omega)
    refine ⟨h0.1, h2.1, h2.2, vl_of fun k hk => ?_⟩
    have h3 := h (k + 1) (by simp at hk ⊢; omega)
    refine ⟨by simpa using h3.1, fun hk0 => ?_⟩
    have h4 := h3.2 (by omega)
    obtain ⟨j, rfl⟩ : ∃ j, k = j + 1 := ⟨k - 1, by omega⟩
    simpa using h4

theorem ok_of : ∀ {l : List C}, VL l → ∀ k, k < l.length → okAt l k
  | [], _, k, hk => by simp at hk
  | [c], h, k, hk => by
    simp at hk
    subst hk
    exact ⟨h, fun h => by omega⟩
  | b :: c :: r, h, k, hk => by
    cases k with
    | zero => exact ⟨h.1, fun h => by omega⟩
    | succ j =>
      have h1 := ok_of h.tail j (by simp at hk ⊢; omega)
      refine ⟨by simpa using h1.1, fun _ => ?_⟩
      cases j with
      | zero => exact ⟨h.2.1, h.2.2.1⟩
      | succ i =>
        have h2 := h1.2 (by omega)
        simpa using h2

theorem mayB_iff {l : List C} : mayB l = true ↔ VL l := by
  constructor
  · intro h
    refine vl_of fun k hk => ?_
    unfold mayB at h
    rw [List.all_eq_true] at h
    simpa using h k (by simpa using hk)
  · intro h
    exact mayB_true (ok_of h)

/-- the newer of two owners. -/
def joinO : Option O → Option O → Option O
  | none, b => b
  | some a, none => some a
  | some a, some b => if a.2 < b.2 ∨ (a.2 = b.2 ∧ a.1 < b.1) then some b else some a

theorem joinO_comm (a b : Option O) : joinO a b = joinO b a := by
  cases a with
  | none => cases b <;> rfl
  | some a => cases b with
    | none => rfl
    | some b =>
      obtain ⟨a1, a2⟩ := a
      obtain ⟨b1, b2⟩ := b
      simp only [joinO]
      by_cases h : a2 < b2 ∨ (a2 = b2 ∧ a1 < b1)
      · rw [if_pos h, if_neg (by omega)]
      · rw [if_neg h]
        by_cases h2 : b2 < a2 ∨ (b2 = a2 ∧ b1 < a1)
        · rw [if_pos h2]
        · rw [if_neg h2]
          have : a1 = b1 ∧ a2 = b2 := by omega
          rw [this.1, this.2]

theorem joinO_self (a : Option O) : joinO a a = a := by
  cases a with
  | none => rfl
  | some a => simp [joinO]

theorem joinO_assoc (a b c : Option O) : joinO (joinO a b) c = joinO a (joinO b c) := by
  cases a with
  | none => cases b <;> rfl
  | some a => cases b with
    | none => cases c <;> rfl
    | some b => cases c with
      | none =>
        simp only [joinO]
        by_cases h : a.2 < b.2 ∨ (a.2 = b.2 ∧ a.1 < b.1)
        · simp [h]
        · simp [h]
      | some c =>
        obtain ⟨a1, a2⟩ := a
        obtain ⟨b1, b2⟩ := b
        obtain ⟨c1, c2⟩ := c
        simp only [joinO]
        by_cases h : a2 < b2 ∨ (a2 = b2 ∧ a1 < b1) <;> by_cases h2 : b2 < c2 ∨ (b2 = c2 ∧ b1 < c1) <;> by_cases h3 : a2 < c2 ∨ (a2 = c2 ∧ a1 < c1) <;>
          simp only [h, h2, h3, if_true, if_false] <;> omega

end Ow
end Go.Proofs.YtahmddopbmjepaaDoor
namespace Go.Proofs.YtahmddopbmjepaaDoor
open Go.RowKit Go.Shelf

/-- What is told of a slice of bytes: so many cells hold these bytes. -/
def Bytes (w : World) (a : Option Addr) (l : List UInt8) : Prop :=
  l = [] ∨ ∃ b off, a = some ⟨b, off, none⟩ ∧ ∀ k, k < l.length → w.cell? ⟨b, off + k, none⟩ = some (.int .u8 ((l.getD k 0).toNat : Int))

theorem Bytes.later {w w' : World} {a : Option Addr} {l : List UInt8} (h : Bytes w a l) (hb : Below w.heap.size w w') : Bytes w' a l := by
  rcases h with h | ⟨b, off, ha, hc⟩
  · exact .inl h
  · refine .inr ⟨b, off, ha, fun k hk => ?_⟩
    have h1 := hc k hk
    rw [hb.cell (p := ⟨b, off + k, none⟩) (World.block_lt_of_cell? w _ h1)]
    exact h1

/-- the elements of a slice of bytes that came in. -/
theorem bytes_of (w : World) (x : Addr) (len cap : Nat) (zs : List Int) (hl : len ≤ cap) (hm : cap ≤ maxLen) (hz : len ≤ zs.length)
    (hcell : ∀ i, i < zs.length → w.cell? (x.add i) = some (.int .u8 (zs.getD i 0))) (hwz : ∀ n ∈ zs, (Lit.int .u8 n).wf = true) :
    ∃ l : List UInt8, len = l.length ∧ l.length ≤ maxLen ∧ Bytes w (some x) l := by
  have hlen : ((zs.take len).map fun n => UInt8.ofNat n.toNat).length = len := by simp; omega
  refine ⟨(zs.take len).map fun n => UInt8.ofNat n.toNat, hlen.symm, by rw [hlen]; omega, ?_⟩
  by_cases h0 : len = 0
  · left; subst h0; simp
  · right
    obtain ⟨b, off, spot⟩ := x
    have hc := hcell 0 (by omega)
    have hspot : spot = none := by simpa [Addr.add] using World.cell?_spot hc
    subst hspot
    refine ⟨b, off, rfl, fun k hk => ?_⟩
    rw [hlen] at hk
    have hk' : k < zs.length := by omega
    have h1 := hcell k hk'
    have h2 := hwz (zs[k]) (List.getElem_mem hk')
    have h3 : 0 ≤ zs[k] ∧ zs[k] < 256 := by
      simp [Lit.wf, IntKind.min, IntKind.max, IntKind.signed, IntKind.bits] at h2
      omega
    have e : zs.getD k 0 = zs[k] := by simp [List.getD, hk']
    have e2 : (((zs.take len).map fun n => UInt8.ofNat n.toNat).getD k 0).toNat = zs[k].toNat := by
      simp [List.getD, hk, hk']
      omega
    have e3 : ((((zs.take len).map fun n => UInt8.ofNat n.toNat).getD k 0).toNat : Int) = zs[k] := by rw [e2]; omega
    rw [e3, ← e, ← h1]
    by_cases hk0 : k = 0 <;> simp [Addr.add, hk0]

theorem byte_bd (b : UInt8) : 0 ≤ (b.toNat : Int) ∧ (b.toNat : Int) ≤ 255 := by
  have := UInt8.toNat_lt b
  omega
theorem idx_at (l : List UInt8) (k : Nat) (h : k < l.length) (W : World) : (Instr.index 9 (.string ⟨l.toArray⟩) (.int .i64 (k : Int))).run Tryd.prog W = .ok (.int .u8 ((l.getD k 0).toNat : Int)) W := by
  have hs : (⟨l.toArray⟩ : ByteArray).size = l.length := by simp [ByteArray.size]
  have e : l.getD k 0 = l[k] := by simp [List.getD, h]
  rw [run_index_string W 9 ⟨l.toArray⟩ .i64 (k : Int) Tryd.underlying9, dif_pos ⟨by omega, by rw [hs]; omega⟩, e]
  rfl

end Go.Proofs.YtahmddopbmjepaaDoor
