/- Plain: two valid lists of claims gone through at once. The contracts of claims.since and claims.stretch. The contracts of claims.side, slices.BinarySearchFunc at claims, claims.Of; of the reference's SameClaims. -/
import Derived.Test.YtahmddopbmjepaaDoorRD02
import Derived.Test.YtahmddopbmjepaaDoorRD12
import Derived.Deep.QuietTactic
import Derived.BigQuiet
import Derived.RegionTactic
import Derived.BigRegion
import Derived.Deep.RegionHeld3
namespace Go.Proofs.YtahmddopbmjepaaDoor
namespace Ow

/-- without the claims at its begin that end ahead of a slot. -/
def sinceP : List C → Int → List C
  | [], _ => []
  | c :: r, n => if c.t < n then sinceP r n else c :: r

/-- who has the slot, and up to where does that not change? -/
def stretchP : List C → Int → Option O × Int
  | [], _ => (none, 16383)
  | c :: _, n => if n < c.f then (none, c.f - 1) else (some (c.n, c.e), c.t)

/-- what is left of a list from a slot on. -/
def Rest (A : Int → Option O) (l : List C) (n : Int) : Prop := VL l ∧ ∀ k, n ≤ k → own l k = A k

theorem Rest.start (l : List C) (h : VL l) : Rest (own l) l 0 := ⟨h, fun _ _ => rfl⟩

theorem Rest.later {A : Int → Option O} {l : List C} {n m : Int} (h : Rest A l n) (hm : n ≤ m) : Rest A l m := ⟨h.1, fun k hk => h.2 k (by omega)⟩

theorem since_ok {A : Int → Option O} : ∀ {l : List C} {n : Int}, Rest A l n → Rest A (sinceP l n) n ∧ (∀ c ∈ (sinceP l n).head?, n ≤ c.t)
  | [], _, h => ⟨h, by simp [sinceP]⟩
  | c :: r, n, h => by
    by_cases hc : c.t < n
    · simp only [sinceP, hc, if_true]
      exact since_ok (l := r) ⟨h.1.tail, fun k hk => by rw [← h.2 k hk, own_tail (by omega)]⟩
    · simp only [sinceP, hc, if_false]
      exact ⟨h, by simp; omega⟩

theorem since_len : ∀ (l : List C) (n : Int), (sinceP l n).length ≤ l.length
  | [], _ => Nat.le_refl _
  | c :: r, n => by
    simp only [sinceP]
    split
    · have := since_len r n; simp; omega
    · exact Nat.le_refl _

theorem stretch_ok {A : Int → Option O} {l : List C} {n : Int} (h : Rest A l n) (hh : ∀ c ∈ l.head?, n ≤ c.t) (h0 : 0 ≤ n) (h1 : n < 16384) :
    n ≤ (stretchP l n).2 ∧ (stretchP l n).2 < 16384 ∧ ∀ k, n ≤ k → k ≤ (stretchP l n).2 → A k = (stretchP l n).1 := by
  cases l with
  | nil =>
    refine ⟨by simp [stretchP]; omega, by simp [stretchP], fun k hk _ => ?_⟩
    rw [← h.2 k hk]; rfl
  | cons c r =>
    have hc := h.1.head
    have hn := hh c (by simp)
    unfold okC at hc
    unfold stretchP
    by_cases hf : n < c.f
    · simp only [if_pos hf]
      refine ⟨by omega, by omega, fun k hk hk2 => ?_⟩
      rw [← h.2 k hk, own_low h.1 (by omega)]
    · simp only [if_neg hf]
      refine ⟨by omega, by omega, fun k hk hk2 => ?_⟩
      rw [← h.2 k hk, own_first (by omega) (by omega)]

/-- an owner as the program has it: nobody is zero. -/
def zo : Option O → O
  | none => (0, 0)
  | some o => o

/-- may an owner be? -/
def okO (o : Option O) : Prop := ∀ p ∈ o, 0 ≤ p.1 ∧ p.1 < 8 ∧ 1 ≤ p.2 ∧ p.2 ≤ 9007199254740992

theorem okO_own {l : List C} (h : VL l) (k : Int) : okO (own l k) := by
  intro p hp
  have := own_range h hp
  omega

theorem zo_ne {o : Option O} (h : okO o) : zo o = (0, 0) ↔ o = none := by
  cases o with
  | none => simp [zo]
  | some p =>
    have := h p rfl
    obtain ⟨a, b⟩ := p
    simp only [zo, Prod.mk.injEq, reduceCtorEq, iff_false]
    simp only at this
    omega

/-- a stretch of slots. -/
abbrev V := { s : Int × Int // 0 ≤ s.1 ∧ s.1 ≤ s.2 ∧ s.2 < 16384 }
/-- a piece: side by side slots of the same two owners. -/
abbrev PV := V × { p : Option O × Option O // okO p.1 ∧ okO p.2 }

/-- so far gone through: pieces side by side from 0 up to a slot. -/
inductive PC (A B : Int → Option O) : List PV → Int → Prop
  | nil : PC A B [] 0
  | snoc {pre : List PV} (p : PV) : PC A B pre p.1.1.1 → (∀ k, p.1.1.1 ≤ k → k ≤ p.1.1.2 → A k = p.2.1.1 ∧ B k = p.2.1.2) → PC A B (pre ++ [p]) (p.1.1.2 + 1)

theorem PC.len {A B : Int → Option O} {pre : List PV} {n : Int} (h : PC A B pre n) : (pre.length : Int) ≤ n ∧ 0 ≤ n := by
  induction h with
  | nil => simp
  | snoc p _ _ ih =>
    have := p.1.2
    simp; omega

/-- a wish's answer to a piece, put behind what there is. -/
def stepP (want : Option O → Option O → Option O) (l : List C) (p : PV) : List C :=
  match want p.2.1.1 p.2.1.2 with
  | none => l
  | some o => more l ⟨p.1.1.1, p.1.1.2, o.1, o.2⟩

def chosenP (want : Option O → Option O → Option O) (xs : List PV) : List C := xs.foldl (stepP want) []

theorem chosenP_snoc (want : Option O → Option O → Option O) (xs : List PV) (p : PV) : chosenP want (xs ++ [p]) = stepP want (chosenP want xs) p := by
  simp [chosenP, List.foldl_append]

/-- what the wish takes of owners that may be may be. -/
def OkW (want : Option O → Option O → Option O) : Prop := ∀ a b, okO a → okO b → okO (want a b)

theorem PC.chosen {A B : Int → Option O} {want : Option O → Option O → Option O} (hw : OkW want) {pre : List PV} {n : Int} (h : PC A B pre n) : Told (fun k => want (A k) (B k)) (chosenP want pre) n := by
  induction h with
  | nil => exact Told.nil _ _ (fun k h0 h1 => by omega)
  | @snoc pre p hp hk ih =>
    have hb := p.1.2
    rw [chosenP_snoc]
    unfold stepP
    have ho := hw _ _ p.2.2.1 p.2.2.2
    cases hq : want p.2.1.1 p.2.1.2 with
    | none => exact ih.skip (by omega) (fun k h1 h2 => by have := hk k h1 (by omega); rw [this.1, this.2, hq])
    | some o =>
      rw [hq] at ho
      exact ih.more hb.1 hb.2.1 hb.2.2 (ho o rfl) (fun k h1 h2 => by have := hk k h1 h2; rw [this.1, this.2, hq])

theorem chosenP_len (want : Option O → Option O → Option O) (xs : List PV) : (chosenP want xs).length ≤ xs.length := by
  have : ∀ (xs : List PV) (l : List C), (xs.foldl (stepP want) l).length ≤ l.length + xs.length := by
    intro xs
    induction xs with
    | nil => intro l; simp
    | cons p r ih =>
      intro l
      have h1 := ih (stepP want l p)
      have h2 : (stepP want l p).length ≤ l.length + 1 := by
        unfold stepP
        split
        · omega
        · exact more_len _ _
      simp only [List.foldl_cons, List.length_cons]
      omega
  simpa [chosenP] using this xs []

theorem more_t {P : Int → Prop} {c : C} (hc : P c.t) : ∀ {l : List C}, (∀ b ∈ l, P b.t) → ∀ b ∈ more l c, P b.t
  | [], _, b, hb => by simp [more] at hb; subst hb; exact hc
  | [d], h, b, hb => by
    simp only [more] at hb
    split at hb
    · simp at hb; subst hb; exact hc
    · simp at hb
      rcases hb with rfl | rfl
      · exact h _ (by simp)
      · exact hc
  | d :: e :: r, h, b, hb => by
    simp only [more, List.mem_cons] at hb
    rcases hb with rfl | hb
    · exact h _ (by simp)
    · exact more_t hc (l := e :: r) (fun x hx => h x (by simp [hx])) b hb

theorem chosenP_t (want : Option O → Option O → Option O) (xs : List PV) : ∀ b ∈ chosenP want xs, 0 ≤ b.t ∧ b.t < 16384 := by
  have : ∀ (xs : List PV) (l : List C), (∀ b ∈ l, 0 ≤ b.t ∧ b.t < 16384) → ∀ b ∈ xs.foldl (stepP want) l, 0 ≤ b.t ∧ b.t < 16384 := by
    intro xs
    induction xs with
    | nil => intro l h; exact h
    | cons p r ih =>
      intro l h
      refine ih _ ?_
      unfold stepP
      split
      · exact h
      · have := p.1.2
        exact more_t (P := fun t => 0 ≤ t ∧ t < 16384) (by simp only; omega) h
  exact this xs [] (by simp)

theorem okW_join : OkW joinO := by
  intro a b ha hb
  cases a with
  | none => exact hb
  | some a => cases b with
    | none => exact ha
    | some b =>
      simp only [joinO]
      split
      · exact hb
      · exact ha

/-- the second one where there is one. -/
def giveO (a b : Option O) : Option O := match b with
  | none => a
  | some o => some o

theorem okW_give : OkW giveO := by
  intro a b ha hb
  cases b with
  | none => exact ha
  | some b => exact hb

end Ow
end Go.Proofs.YtahmddopbmjepaaDoor
namespace Go.Proofs.YtahmddopbmjepaaDoor
open Go.RowKit

theorem ow_cell {fn : Func} {t : Tmp} {T : TypeId} (h : fn.results = #[.cell t T]) {tmps : Array Value} {P : Program} {w : World} {p : Addr} {v : Value} (hp : tmps.getD t undef = .pointer (some p)) (hl : (loadVar T p).run P w = .ok v w) :
    (results fn tmps).run P w = .ok v w := by
  have hp' : tmps[t]?.getD undef = .pointer (some p) := by simpa using hp
  simp [results, h, hp', hl, asAddr]
theorem ow_cellt {fn : Func} {t u : Tmp} {T : TypeId} (h : fn.results = #[.cell t T, .tmp u]) {tmps : Array Value} {P : Program} {w : World} {p : Addr} {v : Value} (hp : tmps.getD t undef = .pointer (some p)) (hl : (loadVar T p).run P w = .ok v w) :
    (results fn tmps).run P w = .ok (.tuple #[v, tmps.getD u undef]) w := by
  have hp' : tmps[t]?.getD undef = .pointer (some p) := by simpa using hp
  simp [results, h, hp', hl, asAddr]
-- left out: loadOwner
/-- a list without its first claim, as it lies. -/
theorem Cls.tail {w : World} {b off cap : Nat} {c : Ow.C} {r : List Ow.C} (h : Cls w (some ⟨b, off, none⟩) cap (c :: r)) : Cls w (some ⟨b, off + 4, none⟩) (cap - 1) r := by
  obtain ⟨h0, h1, h2, h3⟩ := h
  rw [List.length_cons] at h0
  refine ⟨by omega, by omega, fun d hd => h2 d (by simp [hd]), ?_⟩
  rcases h3 with h3 | ⟨b', off', hp, hb, hc⟩
  · simp at h3
  · simp only [Option.some.injEq, Addr.mk.injEq, and_true] at hp
    obtain ⟨rfl, rfl⟩ := hp
    refine .inr ⟨b, off + 4, rfl, hb, fun k hk => ?_⟩
    have := hc (k + 1) (by simp; omega)
    rw [show off + (k + 1) * 4 = off + 4 + k * 4 by omega] at this
    simpa using this

-- left out: since_any
-- left out: stretch_any
end Go.Proofs.YtahmddopbmjepaaDoor
namespace Go.Proofs.YtahmddopbmjepaaDoor
open Go.RowKit

namespace Ow
theorem VL.asc : ∀ {l : List C}, VL l → ∀ i j, i < j → j < l.length → (l.getD i z).t < (l.getD j z).f
  | [], _, i, j, _, h => by simp at h
  | b :: r, h, 0, j + 1, _, hj => by
    have e : (b :: r).getD (j + 1) z = r.getD j z := by simp
    have hj' : j < r.length := by simpa using hj
    have e2 : r.getD j z = r[j] := by simp [List.getD, hj']
    rw [e, e2]
    exact h.behind _ (List.getElem_mem hj')
  | b :: r, h, i + 1, j + 1, hij, hj => by
    have := VL.asc h.tail i j (by omega) (by simpa using hj)
    simpa using this
  | b :: r, h, i, 0, hij, _ => by omega

theorem VL.okAt {l : List C} (h : VL l) {k : Nat} (hk : k < l.length) : okC (l.getD k z) := by
  have e : l.getD k z = l[k] := by simp [List.getD, hk]
  rw [e]
  exact h.all _ (List.getElem_mem hk)

theorem VL.len' : ∀ {r : List C} {b : C}, VL (b :: r) → (r.length : Int) ≤ 16383 - b.t
  | [], b, h => by
    have := h.head
    unfold okC at this
    simp
    omega
  | c :: r, b, h => by
    have h1 := VL.len' h.tail
    have h2 := h.2.1
    have h3 := h.tail.head
    unfold okC at h3
    simp only [List.length_cons]
    omega

theorem VL.len {l : List C} (h : VL l) : l.length ≤ 16384 := by
  cases l with
  | nil => simp
  | cons b r =>
    have h1 := h.len'
    have h2 := h.head
    unfold okC at h2
    simp only [List.length_cons]
    omega

theorem own_ix {l : List C} (h : VL l) {lo : Nat} {k : Int} (h2 : ∀ i, i < lo → (l.getD i z).t < k) (h3 : ∀ i, lo ≤ i → i < l.length → k ≤ (l.getD i z).t) :
    own l k = if lo < l.length ∧ (l.getD lo z).f ≤ k then some ((l.getD lo z).n, (l.getD lo z).e) else none := by
  by_cases hh : lo < l.length ∧ (l.getD lo z).f ≤ k
  · rw [if_pos hh]
    have e : l.getD lo z = l[lo]'hh.1 := by simp [List.getD, hh.1]
    have h4 := h3 lo (Nat.le_refl _) hh.1
    exact own_of h (by rw [e]; exact List.getElem_mem hh.1) (inC_iff.2 ⟨hh.2, by omega⟩)
  · rw [if_neg hh]
    refine own_none fun c hc => inC_not.2 ?_
    obtain ⟨i, hi, rfl⟩ := List.mem_iff_getElem.1 hc
    have e : l.getD i z = l[i] := by simp [List.getD, hi]
    rw [← e]
    by_cases h5 : i < lo
    · exact .inr (h2 i h5)
    · left
      by_cases h6 : i = lo
      · subst h6
        have : ¬ (l.getD i z).f ≤ k := fun h => hh ⟨hi, h⟩
        omega
      · have h7 := h.asc lo i (by omega) hi
        have h8 := h3 lo (Nat.le_refl _) (by omega)
        omega

/-- on which side of a slot. -/
def sgn (c : C) (k : Int) : Int := if c.t < k then -1 else if k < c.f then 1 else 0
theorem sgn_neg (c : C) (k : Int) : sgn c k < 0 ↔ c.t < k := by unfold sgn; split <;> (try split) <;> omega
theorem sgn_zero (c : C) (k : Int) : sgn c k = 0 ↔ ¬ c.t < k ∧ c.f ≤ k := by unfold sgn; split <;> (try split) <;> omega
end Ow

set_option maxHeartbeats 1000000 in
theorem side_any (c : Ow.C) (k : Int) (w : World) : Calls Tryd.prog 48 #[.agg #[.int .i64 c.f, .int .i64 c.t, .int .i64 c.n, .int .i64 c.e], .int .i64 k] w fun e w' => e = .returned (.int .i64 (Ow.sgn c k)) ∧ Below w.heap.size w w' := by
  obtain ⟨f, t, n, e⟩ := c
  unfold Ow.sgn
  simp only
  by_cases h1 : t < k
  · rw [if_pos h1]
    go_enter Tryd.func48, Tryd.ntmps48
    go_wp2
    go_ret
    exact ⟨rfl, (Below.refl _ _).alloc (Nat.le_refl _) _⟩
  · rw [if_neg h1]
    by_cases h2 : k < f
    · rw [if_pos h2]
      go_enter Tryd.func48, Tryd.ntmps48
      go_wp2
      go_ret
      exact ⟨rfl, (Below.refl _ _).alloc (Nat.le_refl _) _⟩
    · rw [if_neg h2]
      go_enter Tryd.func48, Tryd.ntmps48
      go_wp2
      go_ret
      exact ⟨rfl, (Below.refl _ _).alloc (Nat.le_refl _) _⟩

/-- where a search ends. -/
def BsOut (l : List Ow.C) (k : Int) (w : World) (e : Ending) (w' : World) : Prop :=
  ∃ (i : Nat) (b : Bool), (∀ j, j < i → (l.getD j Ow.z).t < k) ∧ (∀ j, i ≤ j → j < l.length → k ≤ (l.getD j Ow.z).t) ∧ (b = true ↔ i < l.length ∧ (l.getD i Ow.z).f ≤ k) ∧ e = .returned (.tuple #[.int .i64 i, .bool b]) ∧ Below w.heap.size w w'

set_option maxRecDepth 100000 in
set_option maxHeartbeats 4000000 in
theorem ow_bsearch (a : Option Addr) (cap : Nat) (l : List Ow.C) (key : Int) (w : World) (hP : Cls w a cap l) (hu : Ow.VL l) :
    Calls Tryd.prog 47 #[.slice a l.length cap, .int .i64 key, .func (.func 48) #[] #[]] w (BsOut l key w) := by
  have HP := Lib.hid hP
  have HU := Lib.hid hu
  have hnI : (l.length : Int) ≤ 1000000 := by have := hu.len; omega
  clear hP hu
  go_enter Tryd.func47, Tryd.ntmps47
  go_wp2
  go_loopw [9, 10, 11] (fun i j _ wr => ∃ lo hi : Nat, i = .int .i64 lo ∧ j = .int .i64 hi ∧ lo ≤ hi ∧ hi ≤ l.length ∧ Hid (∀ k, k < lo → (l.getD k Ow.z).t < key) ∧ Hid (∀ k, hi ≤ k → k < l.length → key ≤ (l.getD k Ow.z).t) ∧ Hid (Below w.heap.size w wr)) (fun i j _ _ => (intOf j).toNat - (intOf i).toNat)
  case atStart => exact ⟨0, l.length, rfl, rfl, Nat.zero_le _, Nat.le_refl _, Lib.hid fun k h => by omega, Lib.hid fun k h1 h2 => by omega, Lib.hid (Below.refl _ _)⟩
  case round =>
    obtain ⟨lo, hi, rfl, rfl, hlh, hin, HLo, HHi, HB⟩ := hrel
    have k0 : (0 : Int) ≤ (lo : Int) := by omega
    have k1 : (hi : Int) ≤ (l.length : Int) := by omega
    by_cases hlt : lo < hi
    · obtain ⟨b, off, rfl, hb, cm⟩ := (HP.out.later HB.out).cells (k := (lo + hi) / 2) (by omega)
      have k2 : (lo : Int) < (hi : Int) := by omega
      have hmid : (((lo + hi) / 2 : Nat) : Int) = ((lo : Int) + (hi : Int)) / 2 := by omega
      have k3 : (lo : Int) ≤ ((lo : Int) + (hi : Int)) / 2 := by omega
      have k4 : ((lo : Int) + (hi : Int)) / 2 < (hi : Int) := by omega
      obtain ⟨m, hm⟩ : ∃ m, (lo + hi) / 2 = m := ⟨_, rfl⟩
      have HM : Hid (lo ≤ m ∧ m < hi ∧ (m : Int) = ((lo : Int) + (hi : Int)) / 2 ∧ m < l.length) := Lib.hid ⟨by omega, by omega, by omega, by omega⟩
      obtain ⟨⟨f, t, n, e⟩, hy⟩ : ∃ y, l.getD ((lo + hi) / 2) Ow.z = y := ⟨_, rfl⟩
      rw [hy] at cm
      have HY : Hid ((l.getD m Ow.z).t = t ∧ (l.getD m Ow.z).f ≤ t) := Lib.hid (by rw [← hm, hy]; exact ⟨rfl, by have := HU.out.okAt (k := (lo + hi) / 2) (by omega); rw [hy] at this; unfold Ow.okC at this; simp only at this ⊢; omega⟩)
      obtain ⟨q0, q1, q2, q3⟩ := cm
      simp only at q0 q1 q2 q3
      clear hmid hm hy
      have HC := Lib.hid (fun W => side_any ⟨f, t, n, e⟩ key W)
      have HSG := Lib.hid (Ow.sgn_neg ⟨f, t, n, e⟩ key)
      obtain ⟨z, hz⟩ : ∃ z, Ow.sgn ⟨f, t, n, e⟩ key = z := ⟨_, rfl⟩
      rw [hz] at HC HSG
      clear hz
      by_cases hz0 : z < 0
      · have HYS := Lib.hid (HSG.out.1 hz0)
        go_wp2_with fail
        refine (HC.out _).mono ?_
        rintro e w1 ⟨rfl, hb1⟩
        have HB1 := Lib.hid (HB.out.trans (hb1.mono HB.out.size))
        clear hb1 q0 q1 q2 q3
        go_wp2_with fail
        go_roundw
        case rel =>
          obtain ⟨m1, m2, m3, m4⟩ := HM.out
          refine ⟨m + 1, hi, by rw [← m3]; go_num, rfl, by omega, hin, Lib.hid fun k hk => ?_, HHi, HB1⟩
          have hys : t < key := HYS.out
          rcases Nat.lt_or_ge k m with h | h
          · have h1 := HU.out.asc k m h m4
            have h2 := HY.out
            omega
          · obtain rfl : k = m := by omega
            rw [HY.out.1]; exact hys
        case measure =>
          obtain ⟨m1, m2, m3, m4⟩ := HM.out
          simp [intOf]; omega
      · have HYS : Hid (key ≤ t) := Lib.hid (Int.not_lt.1 fun h => hz0 (HSG.out.2 h))
        go_wp2_with fail
        refine (HC.out _).mono ?_
        rintro e w1 ⟨rfl, hb1⟩
        have HB1 := Lib.hid (HB.out.trans (hb1.mono HB.out.size))
        clear hb1 q0 q1 q2 q3
        go_wp2_with fail
        go_roundw
        case rel =>
          obtain ⟨m1, m2, m3, m4⟩ := HM.out
          refine ⟨lo, m, rfl, by rw [← m3], by omega, by omega, HLo, Lib.hid fun k hk1 hk2 => ?_, HB1⟩
          rcases Nat.eq_or_lt_of_le hk1 with e | h'
          · subst e
            rw [HY.out.1]
            exact HYS.out
          · have h1 := HU.out.asc m k h' hk2
            have h2 := HU.out.okAt hk2
            unfold Ow.okC at h2
            have h3 := HY.out
            have := HYS.out
            omega
        case measure =>
          obtain ⟨m1, m2, m3, m4⟩ := HM.out
          simp [intOf]; omega
    · obtain rfl : hi = lo := by omega
      by_cases hn2 : hi < l.length
      · obtain ⟨b, off, rfl, hb, cm⟩ := (HP.out.later HB.out).cells (k := hi) hn2
        have k2 : (hi : Int) < (l.length : Int) := by omega
        obtain ⟨⟨f, t, n, e⟩, hy⟩ : ∃ y, l.getD hi Ow.z = y := ⟨_, rfl⟩
        rw [hy] at cm
        have HY : Hid ((l.getD hi Ow.z).f = f ∧ key ≤ t) := Lib.hid ⟨by rw [hy], by have := HHi.out hi (Nat.le_refl _) hn2; rwa [hy] at this⟩
        obtain ⟨q0, q1, q2, q3⟩ := cm
        simp only at q0 q1 q2 q3
        clear hy
        have HC := Lib.hid (fun W => side_any ⟨f, t, n, e⟩ key W)
        have HSG := Lib.hid (Ow.sgn_zero ⟨f, t, n, e⟩ key)
        obtain ⟨z, hz⟩ : ∃ z, Ow.sgn ⟨f, t, n, e⟩ key = z := ⟨_, rfl⟩
        rw [hz] at HC HSG
        clear hz
        obtain ⟨g, hg⟩ : ∃ g, (z == 0) = g := ⟨_, rfl⟩
        have HG : Hid (g = true ↔ f ≤ key) := Lib.hid (by rw [← hg, beq_iff_eq, HSG.out]; exact ⟨fun h => h.2, fun h => ⟨Int.not_lt.2 HY.out.2, h⟩⟩)
        have HN2 := Lib.hid hn2
        go_wp2_with fail
        refine (HC.out _).mono ?_
        rintro e w1 ⟨rfl, hb1⟩
        have HB1 := Lib.hid (HB.out.trans (hb1.mono HB.out.size))
        clear hb1 q0 q1 q2 q3
        go_wp2_with fail
        go_ret2
        exact ⟨hi, g, HLo.out, HHi.out, by rw [HY.out.1]; exact ⟨fun h => ⟨HN2.out, HG.out.1 h⟩, fun h => HG.out.2 h.2⟩, by first | rfl | rw [hg], HB1.out⟩
      · have k2 : ¬ (hi : Int) < (l.length : Int) := by omega
        have HN2 := Lib.hid hn2
        clear hn2
        go_wp2_with fail
        go_ret2
        exact ⟨hi, false, HLo.out, HHi.out, ⟨fun h => (by cases h), fun h => absurd h.1 HN2.out⟩, rfl, HB.out⟩

theorem results_three {fn : Func} {t u s : Tmp} (h : fn.results = #[.tmp t, .tmp u, .tmp s]) (tmps : Array Value) (P : Program) (w : World) :
    (results fn tmps).run P w = .ok (.tuple #[tmps.getD t undef, tmps.getD u undef, tmps.getD s undef]) w := by
  simp [results, h]

set_option maxRecDepth 100000 in
set_option maxHeartbeats 2000000 in
/-- claims.Of: who has a slot. -/
theorem ow_of_any (a : Option Addr) (cap : Nat) (l : List Ow.C) (k : Int) (w : World) (hP : Cls w a cap l) (hu : Ow.VL l) :
    Calls Tryd.prog 27 #[.slice a l.length cap, .int .i64 k] w fun e w' => e = .returned (.tuple #[.int .i64 (Ow.zo (Ow.own l k)).1, .int .i64 (Ow.zo (Ow.own l k)).2, .bool (Ow.own l k).isSome]) ∧ Below w.heap.size w w' := by
  have hX := ow_bsearch a cap l k w hP hu
  have HP := Lib.hid hP
  have hnI : l.length ≤ 16384 := hu.len
  cases ho : Ow.own l k with
  | none =>
    have HX : Hid (Calls Tryd.prog 47 #[.slice a l.length cap, .int .i64 k, .func (.func 48) #[] #[]] w fun e w' => ∃ i : Nat, e = .returned (.tuple #[.int .i64 i, .bool false]) ∧ Below w.heap.size w w') := Lib.hid (hX.mono fun e w' ⟨i, q, h1, h2, h3, he, hb⟩ => by
      refine ⟨i, ?_, hb⟩
      have h4 := Ow.own_ix hu h1 h2
      rw [ho] at h4
      cases q with
      | false => exact he
      | true => rw [if_pos (h3.1 rfl)] at h4; cases h4)
    clear hX hP hu ho
    go_enter Tryd.func27, Tryd.ntmps27
    go_wp2_with (go_at_call 47; refine HX.out.mono ?_; rintro en w1 ⟨i, rfl, hb⟩; have HB := Lib.hid hb; clear hb)
    refine bodyPost_ret (results_three rfl _ _ _) rfl ⟨rfl, HB.out⟩
  | some o =>
    obtain ⟨n, e⟩ := o
    have HX : Hid (Calls Tryd.prog 47 #[.slice a l.length cap, .int .i64 k, .func (.func 48) #[] #[]] w fun en w' => ∃ i : Nat, en = .returned (.tuple #[.int .i64 i, .bool true]) ∧ i < l.length ∧ (∃ bb off, a = some ⟨bb, off, none⟩ ∧ w'.cell? ⟨bb, off + i * 4 + 2, none⟩ = some (.int .i64 n) ∧ w'.cell? ⟨bb, off + i * 4 + 3, none⟩ = some (.int .i64 e)) ∧ Below w.heap.size w w') := Lib.hid (hX.mono fun e w' ⟨i, q, h1, h2, h3, he, hb⟩ => by
      have h4 := Ow.own_ix hu h1 h2
      rw [ho] at h4
      cases q with
      | false => rw [if_neg (fun h => by have := h3.2 h; cases this)] at h4; cases h4
      | true =>
        rw [if_pos (h3.1 rfl)] at h4
        obtain ⟨bb, off, ha, hbl, c1, c2, c3, c4⟩ := (HP.out.later hb).cells (h3.1 rfl).1
        simp only [Option.some.injEq, Prod.mk.injEq] at h4
        rw [← h4.1] at c3
        rw [← h4.2] at c4
        exact ⟨i, he, (h3.1 rfl).1, ⟨bb, off, ha, c3, c4⟩, hb⟩)
    clear hX hP hu ho
    go_enter Tryd.func27, Tryd.ntmps27
    go_wp2_with (go_at_call 47; refine HX.out.mono ?_; rintro en w1 ⟨i, rfl, hil, ⟨bb, off, rfl, c3, c4⟩, hb⟩; have HB := Lib.hid hb
                 have i0 : (0 : Int) ≤ (i : Int) := by omega
                 have i1 : (i : Int) < (l.length : Int) := by omega
                 clear hb)
    go_quiet (fail)
    go_wp2
    refine bodyPost_ret (results_three rfl _ _ _) rfl ⟨rfl, below_drewN HB.out _⟩

theorem claim_neq (x y z u x2 y2 z2 u2 : Int) (w : World) :
    (binOp .neq 64 (.agg #[.int .i64 x, .int .i64 y, .int .i64 z, .int .i64 u]) (.agg #[.int .i64 x2, .int .i64 y2, .int .i64 z2, .int .i64 u2])).run Tryd.prog w = .ok (.bool (!(x == x2 && (y == y2 && (z == z2 && u == u2))))) w := by
  have u3 := Tryd.underlying3
  have a3 := Tryd.isAgg3
  have z3 := Tryd.sizeOf3
  have hS : Tryd.prog.underlying 64 = some (.struct (Tryd.prog.fieldsOf 64)) := by kernel_rfl
  have hp : Tryd.prog.stoodInHeld 64 = false := by kernel_rfl
  rw [run_neq_struct, show (10000 : Nat) = 9999 + 1 from rfl, run_equalIn_agg w 9999 64 _ _ hS hp]
  simp only [Program.fieldsOf, Tryd.underlying64]
  go_simp
  by_cases h1 : x = x2 <;> by_cases h2 : y = y2 <;> by_cases h3 : z = z2 <;> by_cases h4 : u = u2 <;> simp [h1, h2, h3, h4]

/-- are two lists one, as the reference asks? -/
def sameC (l m : List Ow.C) : Bool := decide (l = m)

-- left out: same_any
end Go.Proofs.YtahmddopbmjepaaDoor
