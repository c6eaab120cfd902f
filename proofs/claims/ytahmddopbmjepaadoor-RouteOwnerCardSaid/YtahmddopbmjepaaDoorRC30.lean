/- Plain: two valid lists of claims gone through at once. The contracts of claims.since and claims.stretch. -/
import Derived.Test.YtahmddopbmjepaaDoorRC02
import Derived.Test.YtahmddopbmjepaaDoorRC14
import Derived.Deep.QuietTactic
import Derived.BigQuiet
import Derived.RegionTactic
import Derived.BigRegion
import Derived.Deep.RegionHeld3
namespace Go.Proofs.YtahmddopbmjepaaDoor
namespace Ow

/-- without the claims at its begin that end ahead of a slot. -/
def sinceP : List C → Int → List C
  | [], _ => []
  | c :: r, n => if c.t < n then sinceP r n else c :: r

/-- who has the slot, and up to where does that not change? -/
def stretchP : List C → Int → Option O × Int
  | [], _ => (none, 16383)
  | c :: _, n => if n < c.f then (none, c.f - 1) else (some (c.n, c.e), c.t)

/-- what is left of a list from a slot on. -/
def Rest (A : Int → Option O) (l : List C) (n : Int) : Prop := VL l ∧ ∀ k, n ≤ k → own l k = A k

theorem Rest.start (l : List C) (h : VL l) : Rest (own l) l 0 := ⟨h, fun _ _ => rfl⟩

theorem Rest.later {A : Int → Option O} {l : List C} {n m : Int} (h : Rest A l n) (hm : n ≤ m) : Rest A l m := ⟨h.1, fun k hk => h.2 k (by omega)⟩

theorem since_ok {A : Int → Option O} : ∀ {l : List C} {n : Int}, Rest A l n → Rest A (sinceP l n) n ∧ (∀ c ∈ (sinceP l n).head?, n ≤ c.t)
  | [], _, h => ⟨h, by simp [sinceP]⟩
  | c :: r, n, h => by
    by_cases hc : c.t < n
    · simp only [sinceP, hc, if_true]
      exact since_ok (l := r) ⟨h.1.tail, fun k hk => by rw [← h.2 k hk, own_tail (by omega)]⟩
    · simp only [sinceP, hc, if_false]
      exact ⟨h, by simp; omega⟩

theorem since_len : ∀ (l : List C) (n : Int), (sinceP l n).length ≤ l.length
  | [], _ => Nat.le_refl _
  | c :: r, n => by
    simp only [sinceP]
    split
    · have := since_len r n; simp; omega
    · exact Nat.le_refl _

theorem stretch_ok {A : Int → Option O} {l : List C} {n : Int} (h : Rest A l n) (hh : ∀ c ∈ l.head?, n ≤ c.t) (h0 : 0 ≤ n) (h1 : n < 16384) :
    n ≤ (stretchP l n).2 ∧ (stretchP l n).2 < 16384 ∧ ∀ k, n ≤ k → k ≤ (stretchP l n).2 → A k = (stretchP l n).1 := by
  cases l with
  | nil =>
    refine ⟨by simp [stretchP]; omega, by simp [stretchP], fun k hk _ => ?_⟩
    rw [← h.2 k hk]; rfl
  | cons c r =>
    have hc := h.1.head
    have hn := hh c (by simp)
    unfold okC at hc
    unfold stretchP
    by_cases hf : n < c.f
    · simp only [if_pos hf]
      refine ⟨by omega, by omega, fun k hk hk2 => ?_⟩
      rw [← h.2 k hk, own_low h.1 (by omega)]
    · simp only [if_neg hf]
      refine ⟨by omega, by omega, fun k hk hk2 => ?_⟩
      rw [← h.2 k hk, own_first (by omega) (by omega)]

/-- an owner as the program has it: nobody is zero. -/
def zo : Option O → O
  | none => (0, 0)
  | some o => o

/-- may an owner be? -/
def okO (o : Option O) : Prop := ∀ p ∈ o, 0 ≤ p.1 ∧ p.1 < 8 ∧ 1 ≤ p.2 ∧ p.2 ≤ 9007199254740992

theorem okO_own {l : List C} (h : VL l) (k : Int) : okO (own l k) := by
  intro p hp
  have := own_range h hp
  omega

theorem zo_ne {o : Option O} (h : okO o) : zo o = (0, 0) ↔ o = none := by
  cases o with
  | none => simp [zo]
  | some p =>
    have := h p rfl
    obtain ⟨a, b⟩ := p
    simp only [zo, Prod.mk.injEq, reduceCtorEq, iff_false]
    simp only at this
    omega

/-- a stretch of slots. -/
abbrev V := { s : Int × Int // 0 ≤ s.1 ∧ s.1 ≤ s.2 ∧ s.2 < 16384 }
/-- a piece: side by side slots of the same two owners. -/
abbrev PV := V × { p : Option O × Option O // okO p.1 ∧ okO p.2 }

/-- so far gone through: pieces side by side from 0 up to a slot. -/
inductive PC (A B : Int → Option O) : List PV → Int → Prop
  | nil : PC A B [] 0
  | snoc {pre : List PV} (p : PV) : PC A B pre p.1.1.1 → (∀ k, p.1.1.1 ≤ k → k ≤ p.1.1.2 → A k = p.2.1.1 ∧ B k = p.2.1.2) → PC A B (pre ++ [p]) (p.1.1.2 + 1)

theorem PC.len {A B : Int → Option O} {pre : List PV} {n : Int} (h : PC A B pre n) : (pre.length : Int) ≤ n ∧ 0 ≤ n := by
  induction h with
  | nil => simp
  | snoc p _ _ ih =>
    have := p.1.2
    simp; omega

/-- a wish's answer to a piece, put behind what there is. -/
def stepP (want : Option O → Option O → Option O) (l : List C) (p : PV) : List C :=
  match want p.2.1.1 p.2.1.2 with
  | none => l
  | some o => more l ⟨p.1.1.1, p.1.1.2, o.1, o.2⟩

def chosenP (want : Option O → Option O → Option O) (xs : List PV) : List C := xs.foldl (stepP want) []

theorem chosenP_snoc (want : Option O → Option O → Option O) (xs : List PV) (p : PV) : chosenP want (xs ++ [p]) = stepP want (chosenP want xs) p := by
  simp [chosenP, List.foldl_append]

/-- what the wish takes of owners that may be may be. -/
def OkW (want : Option O → Option O → Option O) : Prop := ∀ a b, okO a → okO b → okO (want a b)

theorem PC.chosen {A B : Int → Option O} {want : Option O → Option O → Option O} (hw : OkW want) {pre : List PV} {n : Int} (h : PC A B pre n) : Told (fun k => want (A k) (B k)) (chosenP want pre) n := by
  induction h with
  | nil => exact Told.nil _ _ (fun k h0 h1 => by omega)
  | @snoc pre p hp hk ih =>
    have hb := p.1.2
    rw [chosenP_snoc]
    unfold stepP
    have ho := hw _ _ p.2.2.1 p.2.2.2
    cases hq : want p.2.1.1 p.2.1.2 with
    | none => exact ih.skip (by omega) (fun k h1 h2 => by have := hk k h1 (by omega); rw [this.1, this.2, hq])
    | some o =>
      rw [hq] at ho
      exact ih.more hb.1 hb.2.1 hb.2.2 (ho o rfl) (fun k h1 h2 => by have := hk k h1 h2; rw [this.1, this.2, hq])

theorem chosenP_len (want : Option O → Option O → Option O) (xs : List PV) : (chosenP want xs).length ≤ xs.length := by
  have : ∀ (xs : List PV) (l : List C), (xs.foldl (stepP want) l).length ≤ l.length + xs.length := by
    intro xs
    induction xs with
    | nil => intro l; simp
    | cons p r ih =>
      intro l
      have h1 := ih (stepP want l p)
      have h2 : (stepP want l p).length ≤ l.length + 1 := by
        unfold stepP
        split
        · omega
        · exact more_len _ _
      simp only [List.foldl_cons, List.length_cons]
      omega
  simpa [chosenP] using this xs []

theorem more_t {P : Int → Prop} {c : C} (hc : P c.t) : ∀ {l : List C}, (∀ b ∈ l, P b.t) → ∀ b ∈ more l c, P b.t
  | [], _, b, hb => by simp [more] at hb; subst hb; exact hc
  | [d], h, b, hb => by
    simp only [more] at hb
    split at hb
    · simp at hb; subst hb; exact hc
    · simp at hb
      rcases hb with rfl | rfl
      · exact h _ (by simp)
      · exact hc
  | d :: e :: r, h, b, hb => by
    simp only [more, List.mem_cons] at hb
    rcases hb with rfl | hb
    · exact h _ (by simp)
    · exact more_t hc (l := e :: r) (fun x hx => h x (by simp [hx])) b hb

theorem chosenP_t (want : Option O → Option O → Option O) (xs : List PV) : ∀ b ∈ chosenP want xs, 0 ≤ b.t ∧ b.t < 16384 := by
  have : ∀ (xs : List PV) (l : List C), (∀ b ∈ l, 0 ≤ b.t ∧ b.t < 16384) → ∀ b ∈ xs.foldl (stepP want) l, 0 ≤ b.t ∧ b.t < 16384 := by
    intro xs
    induction xs with
    | nil => intro l h; exact h
    | cons p r ih =>
      intro l h
      refine ih _ ?_
      unfold stepP
      split
      · exact h
      · have := p.1.2
        exact more_t (P := fun t => 0 ≤ t ∧ t < 16384) (by simp only; omega) h
  exact this xs [] (by simp)

theorem okW_join : OkW joinO := by
  intro a b ha hb
  cases a with
  | none => exact hb
  | some a => cases b with
    | none => exact ha
    | some b =>
      simp only [joinO]
      split
      · exact hb
      · exact ha

/-- the second one where there is one. -/
def giveO (a b : Option O) : Option O := match b with
  | none => a
  | some o => some o

theorem okW_give : OkW giveO := by
  intro a b ha hb
  cases b with
  | none => exact ha
  | some b => exact hb

end Ow
end Go.Proofs.YtahmddopbmjepaaDoor
namespace Go.Proofs.YtahmddopbmjepaaDoor
open Go.RowKit

theorem ow_cell {fn : Func} {t : Tmp} {T : TypeId} (h : fn.results = #[.cell t T]) {tmps : Array Value} {P : Program} {w : World} {p : Addr} {v : Value} (hp : tmps.getD t undef = .pointer (some p)) (hl : (loadVar T p).run P w = .ok v w) :
    (results fn tmps).run P w = .ok v w := by
  have hp' : tmps[t]?.getD undef = .pointer (some p) := by simpa using hp
  simp [results, h, hp', hl, asAddr]
theorem ow_cellt {fn : Func} {t u : Tmp} {T : TypeId} (h : fn.results = #[.cell t T, .tmp u]) {tmps : Array Value} {P : Program} {w : World} {p : Addr} {v : Value} (hp : tmps.getD t undef = .pointer (some p)) (hl : (loadVar T p).run P w = .ok v w) :
    (results fn tmps).run P w = .ok (.tuple #[v, tmps.getD u undef]) w := by
  have hp' : tmps[t]?.getD undef = .pointer (some p) := by simpa using hp
  simp [results, h, hp', hl, asAddr]
-- left out: loadOwner
/-- a list without its first claim, as it lies. -/
theorem Cls.tail {w : World} {b off cap : Nat} {c : Ow.C} {r : List Ow.C} (h : Cls w (some ⟨b, off, none⟩) cap (c :: r)) : Cls w (some ⟨b, off + 4, none⟩) (cap - 1) r := by
  obtain ⟨h0, h1, h2, h3⟩ := h
  rw [List.length_cons] at h0
  refine ⟨by omega, by omega, fun d hd => h2 d (by simp [hd]), ?_⟩
  rcases h3 with h3 | ⟨b', off', hp, hb, hc⟩
  · simp at h3
  · simp only [Option.some.injEq, Addr.mk.injEq, and_true] at hp
    obtain ⟨rfl, rfl⟩ := hp
    refine .inr ⟨b, off + 4, rfl, hb, fun k hk => ?_⟩
    have := hc (k + 1) (by simp; omega)
    rw [show off + (k + 1) * 4 = off + 4 + k * 4 by omega] at this
    simpa using this

-- left out: since_any
-- left out: stretch_any
end Go.Proofs.YtahmddopbmjepaaDoor
