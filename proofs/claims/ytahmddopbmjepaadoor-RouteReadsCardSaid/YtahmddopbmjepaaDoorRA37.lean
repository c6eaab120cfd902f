/- Numbers in texts, plain; small facts that the readers share (no function of the program in it). -/
import Derived.Test.YtahmddopbmjepaaDoorRA36
import Derived.Test.YtahmddopbmjepaaDoorRA03
import Derived.Test.YtahmddopbmjepaaDoorRA01
import Derived.Test.YtahmddopbmjepaaDoorProg
import Derived.RangeFuncRecord
import Derived.Shelf.Abstract
import Derived.OwnWalkIn
import Derived.LoopNIn
import Derived.Maps.OwnIn
import Derived.WalkKit
import Derived.WalkLawsBesides
import Derived.WalkSpells
import Derived.TacticsInMore
import Derived.Lib.Hide
import Derived.Outline
import Derived.Below
import Derived.IntWalk
import Derived.BigQuiet
import Derived.Laws.IdiomStrings
import Derived.Deep.DeepFit
import Derived.Deep.DeepCutAuto
import Derived.LoopTactic
import Derived.WalkMore
namespace Go.Proofs.YtahmddopbmjepaaDoor
open Go.RowKit Go.Shelf
set_option linter.unusedVariables false
set_option linter.unusedSimpArgs false

theorem results_cellT {fn : Func} {t : Tmp} {T : TypeId} (h : fn.results = #[.cell t T]) {tmps : Array Value} {P : Program} {w : World} {p : Addr} {v : Value} (hp : tmps.getD t undef = .pointer (some p)) (hl : (loadVar T p).run P w = .ok v w) :
    (results fn tmps).run P w = .ok v w := by
  have hp' : tmps[t]?.getD undef = .pointer (some p) := by simpa using hp
  simp [results, h, hp', hl, asAddr]
theorem bool_eq {c : UInt8} : (c == 45) = true ↔ c.toNat = 45 := by
  rw [beq_iff_eq]
  constructor
  · rintro rfl; rfl
  · intro h; exact UInt8.toNat_inj.1 h
theorem natI {n : Nat} (h : (n : Int) = 45) : n = 45 := by omega
theorem isD_iff {c : UInt8} {y : Int} (h : (c.toNat : Int) = y) : Tx.isD c = (decide (48 ≤ y) && decide (y ≤ 57)) := by
  unfold Tx.isD
  rw [Bool.eq_iff_iff]
  simp only [Bool.and_eq_true, decide_eq_true_eq]
  omega

/-- a piece of a string. -/
theorem sub_str (s : List UInt8) (i k : Nat) (hi : i ≤ k) (hk : k ≤ s.length) : (⟨s.toArray⟩ : ByteArray).extract i k = ⟨((s.take k).drop i).toArray⟩ := by
  apply ByteArray.ext
  simp [List.extract_eq_take_drop, List.take_drop]
  rw [show i + (k - i) = k by omega]

end Go.Proofs.YtahmddopbmjepaaDoor
namespace Go.Proofs.YtahmddopbmjepaaDoor
namespace Tx

/-- what below tells: minus the digits' value, if it is not too far. -/
def belowOk (d : List UInt8) : Bool := digB d && decide (valD d ≤ 9223372036854775808)
def belowS (d : List UInt8) : Int × Bool := if belowOk d then (-(valD d : Int), true) else (0, false)
/-- a zero ahead of another digit, no digits, or minus zero. -/
def badHead (s : List UInt8) : Bool := decide (tailD s = []) || (decide ((tailD s).getD 0 0 = 48) && decide (s ≠ [48]))

theorem below_digit {d : List UInt8} {k : Nat} (h : k < d.length) (hd : isD (d.getD k 0) = false) : belowS d = (0, false) := by
  simp [belowS, belowOk, digB_at h hd]
theorem below_far {d : List UInt8} {k : Nat} (h : k < d.length) (hf : 9223372036854775808 < 10 * valD (d.take k) + ((d.getD k 0).toNat - 48)) : belowS d = (0, false) := by
  have h1 := valD_take d (k + 1)
  rw [take_at h, valD_snoc] at h1
  have h2 : decide (valD d ≤ 9223372036854775808) = false := decide_eq_false (by omega)
  simp [belowS, belowOk, h2]
theorem below_end {d : List UInt8} (hd : ∀ j, j < d.length → isD (d.getD j 0) = true) (hf : valD d ≤ 9223372036854775808) : belowS d = (-(valD d : Int), true) := by
  have h1 : digB d = true := by
    unfold digB; rw [List.all_eq_true]; intro x hx; obtain ⟨j, hj, rfl⟩ := List.getElem_of_mem hx
    have := hd j hj
    rwa [show d.getD j 0 = d[j] by simp [List.getD, hj]] at this
  simp [belowS, belowOk, h1, hf]

theorem digs_head0 (u : Nat) (h : (Dig.digs u).getD 0 0 = 48) : u = 0 := by
  induction u using Nat.strongRecOn with
  | _ u ih =>
    by_cases hu : u < 10
    · rw [Dig.digs_small hu] at h
      have e := ofNat_digit hu
      have h2 : (UInt8.ofNat (48 + u)) = 48 := by simpa using h
      rw [h2] at e
      have : (48 : UInt8).toNat = 48 := rfl
      omega
    · rw [Dig.digs_step hu] at h
      have hne := digs_ne (u / 10)
      have h2 : (Dig.digs (u / 10)).getD 0 0 = 48 := by
        cases hd : Dig.digs (u / 10) with
        | nil => exact absurd hd hne
        | cons c r => rw [hd] at h; simpa using h
      have := ih (u / 10) (by omega) h2
      omega

theorem isD_ge {c : UInt8} (h : isD c = true) : 48 ≤ c.toNat ∧ c.toNat ≤ 57 := by
  unfold isD at h
  rw [Bool.and_eq_true, decide_eq_true_eq, decide_eq_true_eq] at h
  exact h
theorem digit_back {c : UInt8} (h : isD c = true) : UInt8.ofNat (48 + (c.toNat - 48)) = c := by
  have h1 := isD_ge h
  rw [show 48 + (c.toNat - 48) = c.toNat by omega]
  simp
theorem valD_pos {c : UInt8} {r : List UInt8} (hc : isD c = true) (h : c ≠ 48) : 0 < valD (c :: r) := by
  have h1 := isD_ge hc
  have h2 : c.toNat ≠ 48 := fun e => h (UInt8.toNat_inj.1 e)
  have h3 := valD_le [c] r
  have h4 : valD [c] = c.toNat - 48 := by simp [valD]
  rw [h4] at h3
  simp only [List.singleton_append] at h3
  omega
/-- digits without a zero ahead are the decimal of their value. -/
theorem digs_of {d : List UInt8} (hd : digB d = true) (hne : d ≠ []) (h0 : d.getD 0 0 ≠ 48) : Dig.digs (valD d) = d := by
  obtain ⟨n, hn⟩ : ∃ n, d.length = n := ⟨_, rfl⟩
  induction n generalizing d with
  | zero => exact absurd (List.eq_nil_of_length_eq_zero hn) hne
  | succ n ih =>
    obtain ⟨l, c, rfl⟩ : ∃ l c, d = l ++ [c] := ⟨d.dropLast, d.getLast hne, (List.dropLast_concat_getLast hne).symm⟩
    have hl : l.length = n := by simpa using hn
    unfold digB at hd
    rw [List.all_append, Bool.and_eq_true] at hd
    have hc : isD c = true := by simpa using hd.2
    have hcb := isD_ge hc
    rw [valD_snoc]
    cases l with
    | nil =>
      have e : valD [] = 0 := rfl
      rw [e, Nat.mul_zero, Nat.zero_add, Dig.digs_small (by omega), digit_back hc]
      rfl
    | cons x r =>
      have hx : isD x = true := by simp only [List.all_cons, Bool.and_eq_true] at hd; exact hd.1.1
      have hx0 : x ≠ 48 := by simpa using h0
      have hp := valD_pos (r := r) hx hx0
      have hr := ih (d := x :: r) hd.1 (by simp) (by simpa using h0) hl
      rw [Dig.digs_step (by omega), show (10 * valD (x :: r) + (c.toNat - 48)) / 10 = valD (x :: r) by omega, show (10 * valD (x :: r) + (c.toNat - 48)) % 10 = c.toNat - 48 by omega, hr, digit_back hc]

theorem numS_bad {s : List UInt8} (h : badHead s = true) : numS s = (0, false) := by
  have hk : okB s = false := by
    cases hok : okB s with
    | false => rfl
    | true =>
      exfalso
      unfold okB at hok
      simp only [Bool.and_eq_true, decide_eq_true_eq] at hok
      obtain ⟨⟨⟨hd, hm⟩, hne⟩, he⟩ := hok
      unfold badHead at h
      rw [decide_eq_false hne, Bool.false_or, Bool.and_eq_true, decide_eq_true_eq, decide_eq_true_eq] at h
      obtain ⟨h0, h1⟩ := h
      unfold numI at he
      cases hn : negB s with
      | true =>
        rw [hn, if_pos rfl] at he
        obtain ⟨c, t, rfl⟩ : ∃ c t, s = c :: t := by
          cases s with
          | nil => cases hn
          | cons c t => exact ⟨c, t, rfl⟩
        have ht : tailD (c :: t) = t := by unfold tailD; rw [hn, if_pos rfl]; rfl
        rw [ht] at he hne h0 hd
        by_cases hv : valD t = 0
        · rw [hv] at he
          have e0 : Dig.dec (-((0 : Nat) : Int)) = [48] := by
            unfold Dig.dec
            rw [if_neg (by decide)]
            exact Dig.digs_small (by decide)
          rw [e0] at he
          simp only [List.cons.injEq] at he
          exact hne he.2.symm
        · have e1 : Dig.dec (-((valD t : Nat) : Int)) = 45 :: Dig.digs (valD t) := by
            unfold Dig.dec
            rw [if_pos (by omega)]
            simp
          rw [e1] at he
          simp only [List.cons.injEq] at he
          rw [← he.2] at h0
          exact hv (digs_head0 _ h0)
      | false =>
        rw [hn, if_neg (by simp)] at he
        have ht : tailD s = s := by unfold tailD; rw [hn, if_neg (by simp)]
        rw [ht] at he hne h0 hd
        have e1 : Dig.dec ((valD s : Nat) : Int) = Dig.digs (valD s) := by
          unfold Dig.dec
          rw [if_neg (by omega)]
          simp
        rw [e1] at he
        rw [← he] at h0
        have hv := digs_head0 _ h0
        rw [hv] at he
        have e0 : Dig.digs 0 = [48] := Dig.digs_small (by decide)
        rw [e0] at he
        exact h1 he.symm
  unfold numS
  rw [hk]
  rfl

/-- behind the head's test: what Number makes of what below tells. -/
theorem numS_good {s : List UInt8} (h : badHead s = false) :
    numS s = if (belowS (tailD s)).2 = false then (0, false) else if negB s then ((belowS (tailD s)).1, true) else if (belowS (tailD s)).1 = -9223372036854775808 then (0, false) else (-(belowS (tailD s)).1, true) := by
  unfold badHead at h
  rw [Bool.or_eq_false_iff, decide_eq_false_iff_not, Bool.and_eq_false_iff, decide_eq_false_iff_not, decide_eq_false_iff_not] at h
  obtain ⟨hne, h1⟩ := h
  by_cases hb : belowOk (tailD s)
  · have hbs : belowS (tailD s) = (-(valD (tailD s) : Int), true) := by unfold belowS; rw [if_pos hb]
    rw [hbs]
    unfold belowOk at hb
    rw [Bool.and_eq_true, decide_eq_true_eq] at hb
    obtain ⟨hd, hm⟩ := hb
    have hdec : Dig.dec (numI s) = s := by
      unfold numI
      cases hn : negB s with
      | true =>
        rw [if_pos rfl]
        obtain ⟨c, t, rfl⟩ : ∃ c t, s = c :: t := by
          cases s with
          | nil => cases hn
          | cons c t => exact ⟨c, t, rfl⟩
        have hc : c = 45 := by simpa [negB] using hn
        have ht : tailD (c :: t) = t := by unfold tailD; rw [hn, if_pos rfl]; rfl
        rw [ht] at hd hne h1 ⊢
        have hh : t.getD 0 0 ≠ 48 := by
          rcases h1 with h1 | h1
          · exact h1
          · exact absurd (by intro e; rw [hc] at e; cases e) h1
        have hp : 0 < valD t := by
          cases t with
          | nil => exact absurd rfl hne
          | cons x r => exact valD_pos (by unfold digB at hd; simp only [List.all_cons, Bool.and_eq_true] at hd; exact hd.1) (by simpa using hh)
        have e1 : Dig.dec (-((valD t : Nat) : Int)) = 45 :: Dig.digs (valD t) := by
          unfold Dig.dec
          rw [if_pos (by omega)]
          simp
        rw [e1, digs_of hd hne hh, hc]
      | false =>
        rw [if_neg (by simp)]
        have ht : tailD s = s := by unfold tailD; rw [hn, if_neg (by simp)]
        rw [ht] at hd hne h1 ⊢
        have e1 : Dig.dec ((valD s : Nat) : Int) = Dig.digs (valD s) := by
          unfold Dig.dec
          rw [if_neg (by omega)]
          simp
        rw [e1]
        by_cases hs : s = [48]
        · subst hs; exact Dig.digs_small (by decide)
        · refine digs_of hd hne ?_
          rcases h1 with h1 | h1
          · exact h1
          · exact absurd hs h1
    unfold numS okB
    rw [hd, hdec, decide_eq_true hne]
    unfold most numI
    cases hn : negB s with
    | true => simp [hm]
    | false =>
      by_cases hv : valD (tailD s) ≤ 9223372036854775807
      · have : ¬ (-((valD (tailD s) : Nat) : Int) = -9223372036854775808) := by omega
        simp [hv, this]
      · have : (-((valD (tailD s) : Nat) : Int) = -9223372036854775808) := by omega
        simp [hv, this]
  · have hbs : belowS (tailD s) = (0, false) := by unfold belowS; rw [if_neg hb]
    rw [hbs, if_pos rfl]
    have hk : okB s = false := by
      cases hok : okB s with
      | false => rfl
      | true =>
        exfalso
        unfold okB at hok
        simp only [Bool.and_eq_true, decide_eq_true_eq] at hok
        obtain ⟨⟨⟨hd, hm⟩, _⟩, _⟩ := hok
        apply hb
        unfold belowOk
        rw [hd, Bool.true_and, decide_eq_true_eq]
        unfold most at hm
        split at hm <;> omega
    unfold numS
    rw [hk]
    rfl
end Tx
end Go.Proofs.YtahmddopbmjepaaDoor
namespace Go.Proofs.YtahmddopbmjepaaDoor
open Go.RowKit Go.Shelf
set_option linter.unusedVariables false
set_option linter.unusedSimpArgs false

theorem ret_ib {a c : Int} {b d : Bool} (h : (a, b) = (c, d)) : Ending.returned (.tuple #[.int .i64 a, .bool b]) = .returned (.tuple #[.int .i64 c, .bool d]) := by
  simp only [Prod.mk.injEq] at h
  rw [h.1, h.2]

/-- the quotient of a number below 0. -/
theorem quo_neg (d : Int) (h0 : 0 ≤ d) (h9 : d ≤ 9) : (-9223372036854775808 + d).tdiv 10 = -((9223372036854775808 - d) / 10) := by
  rw [show (-9223372036854775808 + d) = -(9223372036854775808 - d) by omega, Int.neg_tdiv, Int.tdiv_eq_ediv_of_nonneg (by omega)]
end Go.Proofs.YtahmddopbmjepaaDoor
