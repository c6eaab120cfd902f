/- Small facts that the walks of stage 6 share. What the developers' Number and below tell, as plain functions; it is what the reference's tells. No program in it. The contract of the developers' below: minus the value of digits. The contract of the developers' Number. -/
import Derived.Test.YtbkhnnjjpelfcaaGreatDoorBytes
import Derived.Test.YtbkhnnjjpelfcaaGreatDoorTxPlain
import Derived.Test.YtbkhnnjjpelfcaaGreatDoorProg
import Derived.RangeFuncRecord
import Derived.Shelf.Abstract
import Derived.OwnWalkIn
import Derived.LoopNIn
import Derived.Maps.OwnIn
import Derived.WalkKit
import Derived.WalkLawsBesides
import Derived.WalkSpells
import Derived.TacticsInMore
import Derived.Lib.Hide
import Derived.Outline
import Derived.Below
import Derived.IntWalk
import Derived.BigQuiet
import Derived.Laws.IdiomStrings
import Derived.Deep.DeepFit
import Derived.Deep.DeepCutAuto
import Derived.LoopTactic
import Derived.WalkMore
import Derived.Test.YtbkhnnjjpelfcaaGreatDoorShelf
namespace Go.Proofs.YtbkhnnjjpelfcaaGreatDoor
open Go.RowKit Go.Shelf
set_option linter.unusedVariables false
set_option linter.unusedSimpArgs false

theorem results_cellT {fn : Func} {t : Tmp} {T : TypeId} (h : fn.results = #[.cell t T]) {tmps : Array Value} {P : Program} {w : World} {p : Addr} {v : Value} (hp : tmps.getD t undef = .pointer (some p)) (hl : (loadVar T p).run P w = .ok v w) :
    (results fn tmps).run P w = .ok v w := by
  have hp' : tmps[t]?.getD undef = .pointer (some p) := by simpa using hp
  simp [results, h, hp', hl, asAddr]
/-- two cells in a block. -/
def Box2 (w : World) (B : Nat) (T : TypeId) (x y : Value) : Prop := w.heap[B]? = some (.cells #[x, y] T (0, 0))
theorem Box2.new (w : World) (T : TypeId) (x y : Value) : Box2 (w.alloc (.cells #[x, y] T)) w.heap.size T x y := World.alloc_heap_new w _
theorem Box2.at {w : World} {B : Nat} {T : TypeId} {x y : Value} (h : Box2 w B T x y) : w.cell? ⟨B, 0, none⟩ = some x ∧ w.cell? ⟨B, 1, none⟩ = some y ∧ w.frozen? ⟨B, 0, none⟩ = false ∧ w.frozen? ⟨B, 1, none⟩ = false := by
  unfold Box2 at h
  refine ⟨?_, ?_, ?_, ?_⟩ <;> simp [World.cell?, World.frozen?, h]
theorem Box2.later {w w' : World} {B : Nat} {T : TypeId} {x y : Value} (h : Box2 w B T x y) (hb : Below w.heap.size w w') : Box2 w' B T x y := (hb.block B (Array.getElem?_eq_some_iff.1 h).1).trans h
theorem Box2.store {w : World} {B : Nat} {T : TypeId} {x y : Value} (h : Box2 w B T x y) (x' y' : Value) : Box2 ((w.setCell ⟨B, 0, none⟩ x').setCell ⟨B, 1, none⟩ y') B T x' y' := by
  unfold Box2 at h ⊢
  simp [World.setCell, Array.getElem?_modify, h]
theorem bool_eq {c : UInt8} : (c == 45) = true ↔ c.toNat = 45 := by
  rw [beq_iff_eq]
  constructor
  · rintro rfl; rfl
  · intro h; exact UInt8.toNat_inj.1 h
theorem natI {n : Nat} (h : (n : Int) = 45) : n = 45 := by omega
theorem isD_iff {c : UInt8} {y : Int} (h : (c.toNat : Int) = y) : Tx.isD c = (decide (48 ≤ y) && decide (y ≤ 57)) := by
  unfold Tx.isD
  rw [Bool.eq_iff_iff]
  simp only [Bool.and_eq_true, decide_eq_true_eq]
  omega

/-- a piece of a string. -/
theorem sub_str (s : List UInt8) (i k : Nat) (hi : i ≤ k) (hk : k ≤ s.length) : (⟨s.toArray⟩ : ByteArray).extract i k = ⟨((s.take k).drop i).toArray⟩ := by
  apply ByteArray.ext
  simp [List.extract_eq_take_drop, List.take_drop]
  rw [show i + (k - i) = k by omega]

end Go.Proofs.YtbkhnnjjpelfcaaGreatDoor
namespace Go.Proofs.YtbkhnnjjpelfcaaGreatDoor
namespace Tx

/-- what below tells: minus the digits' value, if it is not too far. -/
def belowOk (d : List UInt8) : Bool := digB d && decide (valD d ≤ 9223372036854775808)
def belowS (d : List UInt8) : Int × Bool := if belowOk d then (-(valD d : Int), true) else (0, false)
/-- a zero ahead of another digit, no digits, or minus zero. -/
def badHead (s : List UInt8) : Bool := decide (tailD s = []) || (decide ((tailD s).getD 0 0 = 48) && decide (s ≠ [48]))

theorem below_digit {d : List UInt8} {k : Nat} (h : k < d.length) (hd : isD (d.getD k 0) = false) : belowS d = (0, false) := by
  simp [belowS, belowOk, digB_at h hd]
theorem below_far {d : List UInt8} {k : Nat} (h : k < d.length) (hf : 9223372036854775808 < 10 * valD (d.take k) + ((d.getD k 0).toNat - 48)) : belowS d = (0, false) := by
  have h1 := valD_take d (k + 1)
  rw [take_at h, valD_snoc] at h1
  have h2 : decide (valD d ≤ 9223372036854775808) = false := decide_eq_false (by omega)
  simp [belowS, belowOk, h2]
theorem below_end {d : List UInt8} (hd : ∀ j, j < d.length → isD (d.getD j 0) = true) (hf : valD d ≤ 9223372036854775808) : belowS d = (-(valD d : Int), true) := by
  have h1 : digB d = true := by
    unfold digB; rw [List.all_eq_true]; intro x hx; obtain ⟨j, hj, rfl⟩ := List.getElem_of_mem hx
    have := hd j hj
    rwa [show d.getD j 0 = d[j] by simp [List.getD, hj]] at this
  simp [belowS, belowOk, h1, hf]

theorem digs_head0 (u : Nat) (h : (Dig.digs u).getD 0 0 = 48) : u = 0 := by
  induction u using Nat.strongRecOn with
  | _ u ih =>
    by_cases hu : u < 10
    · rw [Dig.digs_small hu] at h
      have e := ofNat_digit hu
      have h2 : (UInt8.ofNat (48 + u)) = 48 := by simpa using h
      rw [h2] at e
      have : (48 : UInt8).toNat = 48 := rfl
      omega
    · rw [Dig.digs_step hu] at h
      have hne := digs_ne (u / 10)
      have h2 : (Dig.digs (u / 10)).getD 0 0 = 48 := by
        cases hd : Dig.digs (u / 10) with
        | nil => exact absurd hd hne
        | cons c r => rw [hd] at h; simpa using h
      have := ih (u / 10) (by omega) h2
      omega

theorem isD_ge {c : UInt8} (h : isD c = true) : 48 ≤ c.toNat ∧ c.toNat ≤ 57 := by
  unfold isD at h
  rw [Bool.and_eq_true, decide_eq_true_eq, decide_eq_true_eq] at h
  exact h
theorem digit_back {c : UInt8} (h : isD c = true) : UInt8.ofNat (48 + (c.toNat - 48)) = c := by
  have h1 := isD_ge h
  rw [show 48 + (c.toNat - 48) = c.toNat by omega]
  simp
theorem valD_pos {c : UInt8} {r : List UInt8} (hc : isD c = true) (h : c ≠ 48) : 0 < valD (c :: r) := by
  have h1 := isD_ge hc
  have h2 : c.toNat ≠ 48 := fun e => h (UInt8.toNat_inj.1 e)
  have h3 := valD_le [c] r
  have h4 : valD [c] = c.toNat - 48 := by simp [valD]
  rw [h4] at h3
  simp only [List.singleton_append] at h3
  omega
/-- digits without a zero ahead are the decimal of their value. -/
theorem digs_of {d : List UInt8} (hd : digB d = true) (hne : d ≠ []) (h0 : d.getD 0 0 ≠ 48) : Dig.digs (valD d) = d := by
  obtain ⟨n, hn⟩ : ∃ n, d.length = n := ⟨_, rfl⟩
  induction n generalizing d with
  | zero => exact absurd (List.eq_nil_of_length_eq_zero hn) hne
  | succ n ih =>
    obtain ⟨l, c, rfl⟩ : ∃ l c, d = l ++ [c] := ⟨d.dropLast, d.getLast hne, (List.dropLast_concat_getLast hne).symm⟩
    have hl : l.length = n := by simpa using hn
    unfold digB at hd
    rw [List.all_append, Bool.and_eq_true] at hd
    have hc : isD c = true := by simpa using hd.2
    have hcb := isD_ge hc
    rw [valD_snoc]
    cases l with
    | nil =>
      have e : valD [] = 0 := rfl
      rw [e, Nat.mul_zero, Nat.zero_add, Dig.digs_small (by omega), digit_back hc]
      rfl
    | cons x r =>
      have hx : isD x = true := by simp only [List.all_cons, Bool.and_eq_true] at hd; exact hd.1.1
      have hx0 : x ≠ 48 := by simpa using h0
      have hp := valD_pos (r := r) hx hx0
      have hr := ih (d := x :: r) hd.1 (by simp) (by simpa using h0) hl
      rw [Dig.digs_step (by omega), show (10 * valD (x :: r) + (c.toNat - 48)) / 10 = valD (x :: r) by omega, show (10 * valD (x :: r) + (c.toNat - 48)) % 10 = c.toNat - 48 by omega, hr, digit_back hc]

theorem numS_bad {s : List UInt8} (h : badHead s = true) : numS s = (0, false) := by
  have hk : okB s = false := by
    cases hok : okB s with
    | false => rfl
    | true =>
      exfalso
      unfold okB at hok
      simp only [Bool.and_eq_true, decide_eq_true_eq] at hok
      obtain ⟨⟨⟨hd, hm⟩, hne⟩, he⟩ := hok
      unfold badHead at h
      rw [decide_eq_false hne, Bool.false_or, Bool.and_eq_true, decide_eq_true_eq, decide_eq_true_eq] at h
      obtain ⟨h0, h1⟩ := h
      unfold numI at he
      cases hn : negB s with
      | true =>
        rw [hn, if_pos rfl] at he
        obtain ⟨c, t, rfl⟩ : ∃ c t, s = c :: t := by
          cases s with
          | nil => cases hn
          | cons c t => exact ⟨c, t, rfl⟩
        have ht : tailD (c :: t) = t := by unfold tailD; rw [hn, if_pos rfl]; rfl
        rw [ht] at he hne h0 hd
        by_cases hv : valD t = 0
        · rw [hv] at he
          have e0 : Dig.dec (-((0 : Nat) : Int)) = [48] := by
            unfold Dig.dec
            rw [if_neg (by decide)]
            exact Dig.digs_small (by decide)
          rw [e0] at he
          simp only [List.cons.injEq] at he
          exact hne he.2.symm
        · have e1 : Dig.dec (-((valD t : Nat) : Int)) = 45 :: Dig.digs (valD t) := by
            unfold Dig.dec
            rw [if_pos (by omega)]
            simp
          rw [e1] at he
          simp only [List.cons.injEq] at he
          rw [← he.2] at h0
          exact hv (digs_head0 _ h0)
      | false =>
        rw [hn, if_neg (by simp)] at he
        have ht : tailD s = s := by unfold tailD; rw [hn, if_neg (by simp)]
        rw [ht] at he hne h0 hd
        have e1 : Dig.dec ((valD s : Nat) : Int) = Dig.digs (valD s) := by
          unfold Dig.dec
          rw [if_neg (by omega)]
          simp
        rw [e1] at he
        rw [← he] at h0
        have hv := digs_head0 _ h0
        rw [hv] at he
        have e0 : Dig.digs 0 = [48] := Dig.digs_small (by decide)
        rw [e0] at he
        exact h1 he.symm
  unfold numS
  rw [hk]
  rfl

/-- behind the head's test: what Number makes of what below tells. -/
theorem numS_good {s : List UInt8} (h : badHead s = false) :
    numS s = if (belowS (tailD s)).2 = false then (0, false) else if negB s then ((belowS (tailD s)).1, true) else if (belowS (tailD s)).1 = -9223372036854775808 then (0, false) else (-(belowS (tailD s)).1, true) := by
  unfold badHead at h
  rw [Bool.or_eq_false_iff, decide_eq_false_iff_not, Bool.and_eq_false_iff, decide_eq_false_iff_not, decide_eq_false_iff_not] at h
  obtain ⟨hne, h1⟩ := h
  by_cases hb : belowOk (tailD s)
  · have hbs : belowS (tailD s) = (-(valD (tailD s) : Int), true) := by unfold belowS; rw [if_pos hb]
    rw [hbs]
    unfold belowOk at hb
    rw [Bool.and_eq_true, decide_eq_true_eq] at hb
    obtain ⟨hd, hm⟩ := hb
    have hdec : Dig.dec (numI s) = s := by
      unfold numI
      cases hn : negB s with
      | true =>
        rw [if_pos rfl]
        obtain ⟨c, t, rfl⟩ : ∃ c t, s = c :: t := by
          cases s with
          | nil => cases hn
          | cons c t => exact ⟨c, t, rfl⟩
        have hc : c = 45 := by simpa [negB] using hn
        have ht : tailD (c :: t) = t := by unfold tailD; rw [hn, if_pos rfl]; rfl
        rw [ht] at hd hne h1 ⊢
        have hh : t.getD 0 0 ≠ 48 := by
          rcases h1 with h1 | h1
          · exact h1
          · exact absurd (by intro e; rw [hc] at e; cases e) h1
        have hp : 0 < valD t := by
          cases t with
          | nil => exact absurd rfl hne
          | cons x r => exact valD_pos (by unfold digB at hd; simp only [List.all_cons, Bool.and_eq_true] at hd; exact hd.1) (by simpa using hh)
        have e1 : Dig.dec (-((valD t : Nat) : Int)) = 45 :: Dig.digs (valD t) := by
          unfold Dig.dec
          rw [if_pos (by omega)]
          simp
        rw [e1, digs_of hd hne hh, hc]
      | false =>
        rw [if_neg (by simp)]
        have ht : tailD s = s := by unfold tailD; rw [hn, if_neg (by simp)]
        rw [ht] at hd hne h1 ⊢
        have e1 : Dig.dec ((valD s : Nat) : Int) = Dig.digs (valD s) := by
          unfold Dig.dec
          rw [if_neg (by omega)]
          simp
        rw [e1]
        by_cases hs : s = [48]
        · subst hs; exact Dig.digs_small (by decide)
        · refine digs_of hd hne ?_
          rcases h1 with h1 | h1
          · exact h1
          · exact absurd hs h1
    unfold numS okB
    rw [hd, hdec, decide_eq_true hne]
    unfold most numI
    cases hn : negB s with
    | true => simp [hm]
    | false =>
      by_cases hv : valD (tailD s) ≤ 9223372036854775807
      · have : ¬ (-((valD (tailD s) : Nat) : Int) = -9223372036854775808) := by omega
        simp [hv, this]
      · have : (-((valD (tailD s) : Nat) : Int) = -9223372036854775808) := by omega
        simp [hv, this]
  · have hbs : belowS (tailD s) = (0, false) := by unfold belowS; rw [if_neg hb]
    rw [hbs, if_pos rfl]
    have hk : okB s = false := by
      cases hok : okB s with
      | false => rfl
      | true =>
        exfalso
        unfold okB at hok
        simp only [Bool.and_eq_true, decide_eq_true_eq] at hok
        obtain ⟨⟨⟨hd, hm⟩, _⟩, _⟩ := hok
        apply hb
        unfold belowOk
        rw [hd, Bool.true_and, decide_eq_true_eq]
        unfold most at hm
        split at hm <;> omega
    unfold numS
    rw [hk]
    rfl
end Tx
end Go.Proofs.YtbkhnnjjpelfcaaGreatDoor
namespace Go.Proofs.YtbkhnnjjpelfcaaGreatDoor
open Go.RowKit Go.Shelf
set_option linter.unusedVariables false
set_option linter.unusedSimpArgs false

theorem ret_ib {a c : Int} {b d : Bool} (h : (a, b) = (c, d)) : Ending.returned (.tuple #[.int .i64 a, .bool b]) = .returned (.tuple #[.int .i64 c, .bool d]) := by
  simp only [Prod.mk.injEq] at h
  rw [h.1, h.2]

/-- the quotient of a number below 0. -/
theorem quo_neg (d : Int) (h0 : 0 ≤ d) (h9 : d ≤ 9) : (-9223372036854775808 + d).tdiv 10 = -((9223372036854775808 - d) / 10) := by
  rw [show (-9223372036854775808 + d) = -(9223372036854775808 - d) by omega, Int.neg_tdiv, Int.tdiv_eq_ediv_of_nonneg (by omega)]

set_option maxRecDepth 100000 in
set_option maxHeartbeats 8000000 in
theorem below_any (s : List UInt8) (w : World) (hl : s.length ≤ 1000000) : Calls Tryz.prog 51 #[.string ⟨s.toArray⟩] w fun e W => e = .returned (.tuple #[.int .i64 (Tx.belowS s).1, .bool (Tx.belowS s).2]) ∧ w = W := by
  have hlt1 : (s.length : Int) ≤ 1000000 := by omega
  go_enter Tryz.func51, Tryz.ntmps51
  go_wp2
  go_step3
  go_wp2
  go_step3
  go_wp2
  go_loop [2, 4] (fun u i => ∃ (q : Nat) (U : Int), q ≤ s.length ∧ i = .int .i64 (q : Int) ∧ u = .int .i64 (-U) ∧ 0 ≤ U ∧ U ≤ 9223372036854775808 ∧ Hid ((Tx.valD (s.take q) : Int) = U ∧ ∀ j, j < q → Tx.isD (s.getD j 0) = true)) (fun _ i => (s.length : Int).toNat + 1 - (intOf i).toNat)
  case atStart => exact ⟨0, 0, Nat.zero_le _, rfl, rfl, by decide, by decide, Lib.hid ⟨rfl, fun j h => by omega⟩⟩
  case round =>
    obtain ⟨q, U, hq, rfl, rfl, u0, uM, HQ⟩ := hrel
    by_cases hlt : q < s.length
    · obtain ⟨c, hc⟩ : ∃ c, s.getD q 0 = c := ⟨_, rfl⟩
      obtain ⟨y, hy⟩ : ∃ y, (c.toNat : Int) = y := ⟨_, rfl⟩
      have hyb := byte_bd c
      rw [hy] at hyb
      obtain ⟨y1, y2⟩ := hyb
      have hix : ∀ W : World, (Instr.index 9 (.string ⟨s.toArray⟩) (.int .i64 (q : Int))).run Tryz.prog W = .ok (.int .u8 y) W := fun W => by
        have := idx_at s q hlt W
        rw [hc, hy] at this
        exact this
      have HD := Lib.hid (isD_iff hy)
      have HC := Lib.hid hc
      have HY := Lib.hid hy
      have k0 : (0 : Int) ≤ (q : Int) := by omega
      have k1 : (q : Int) < (s.length : Int) := by omega
      have HN1 : Hid (Tx.isD c = false → Tx.belowS s = (0, false)) := Lib.hid fun h => Tx.below_digit hlt (by rw [HC.out]; exact h)
      have HN2 : Hid (9223372036854775808 < 10 * U + (y - 48) → Tx.isD c = true → Tx.belowS s = (0, false)) := Lib.hid fun h hd => Tx.below_far hlt (by
        rw [HC.out]; have h1 := HQ.out.1; have h2 := HY.out; rw [HD.out] at hd; simp only [Bool.and_eq_true, decide_eq_true_eq] at hd; omega)
      clear hc hy
      by_cases h48 : y < 48
      · have HR := Lib.hid (HN1.out (by rw [HD.out, decide_eq_false (by omega)]; rfl))
        go_wp2
        try rw [Exit.noGoto_ret]
        go_ret2
        exact ⟨ret_ib HR.out.symm, rfl⟩
      · by_cases h57 : 57 < y
        · have HR := Lib.hid (HN1.out (by rw [HD.out, decide_eq_false (p := y ≤ 57) (by omega), Bool.and_false]))
          go_wp2
          try rw [Exit.noGoto_ret]
          go_ret2
          exact ⟨ret_ib HR.out.symm, rfl⟩
        · have hdt : Tx.isD c = true := by rw [HD.out, decide_eq_true (by omega), decide_eq_true (by omega)]; rfl
          have b1 : (48 : Int) ≤ y := by omega
          have b2 : y ≤ 57 := by omega
          have HDT := Lib.hid hdt
          clear hdt h48 h57
          have hquo := quo_neg (y - 48) (by omega) (by omega)
          by_cases hov : 9223372036854775808 < 10 * U + (y - 48)
          · have HR := Lib.hid (HN2.out hov HDT.out)
            have hgt : -U < (-9223372036854775808 + (y - 48)).tdiv 10 := by omega
            clear hov hquo
            go_wp2
            try rw [Exit.noGoto_ret]
            go_ret2
            exact ⟨ret_ib HR.out.symm, rfl⟩
          · have hle : ¬ (-U < (-9223372036854775808 + (y - 48)).tdiv 10) := by omega
            have hb10 : 10 * U + (y - 48) ≤ 9223372036854775808 := by omega
            have HST : Hid ((Tx.valD (s.take (q + 1)) : Int) = 10 * U + (y - 48) ∧ ∀ j, j < q + 1 → Tx.isD (s.getD j 0) = true) := Lib.hid ⟨by
              rw [Tx.take_at hlt, Tx.valD_snoc, HC.out]; have h1 := HQ.out.1; have h2 := HY.out; omega, fun j hj => by
              rcases Nat.lt_or_ge j q with h | h
              · exact HQ.out.2 j h
              · obtain rfl : j = q := by omega
                rw [HC.out]; exact HDT.out⟩
            clear hov hquo
            go_wp2
            go_round
            case rel => exact ⟨q + 1, 10 * U + (y - 48), by omega, by go_num, by go_num, by omega, by omega, HST⟩
            case measure => simp [intOf]; omega
    · obtain rfl : q = s.length := by omega
      have HR : Hid (Tx.belowS s = (-U, true)) := Lib.hid (by
        have h1 := HQ.out.1
        rw [List.take_length] at h1
        rw [Tx.below_end HQ.out.2 (by omega), h1])
      clear HQ hlt hq
      go_wp2
      try rw [Exit.noGoto_ret]
      go_ret2
      exact ⟨ret_ib HR.out.symm, rfl⟩
end Go.Proofs.YtbkhnnjjpelfcaaGreatDoor
namespace Go.Proofs.YtbkhnnjjpelfcaaGreatDoor
open Go.RowKit Go.Shelf
set_option linter.unusedVariables false
set_option linter.unusedSimpArgs false

theorem cutMinus_any (s : List UInt8) (w : World) : Calls Tryz.prog 50 #[.string ⟨s.toArray⟩, .string ⟨#[45]⟩] w fun e W => e = .returned (.tuple #[.string ⟨(Tx.tailD s).toArray⟩, .bool (Tx.negB s)]) ∧ w = W := by
  refine (Tryz.strings_CutPrefix ⟨s.toArray⟩ ⟨#[45]⟩ w).mono ?_
  rintro e W ⟨rfl, rfl⟩
  refine ⟨?_, rfl⟩
  have hp : Lib.hasPrefix s [45] = Tx.negB s := by
    cases s with
    | nil => rfl
    | cons c t =>
      show ((45 == c) && List.isPrefixOf [] t) = (c == 45)
      rw [List.isPrefixOf_nil_left, Bool.and_true]
      exact Bool.eq_iff_iff.2 ⟨fun h => by rw [beq_iff_eq] at h ⊢; exact h.symm, fun h => by rw [beq_iff_eq] at h ⊢; exact h.symm⟩
  show Ending.returned (.tuple #[.string ⟨(if Lib.hasPrefix s [45] then s.drop 1 else s).toArray⟩, .bool (Lib.hasPrefix s [45])]) = _
  rw [hp]
  rfl

set_option maxRecDepth 100000 in
set_option maxHeartbeats 8000000 in
theorem number_any (s : List UInt8) (w : World) (hl : s.length ≤ 1000000) : Calls Tryz.prog 32 #[.string ⟨s.toArray⟩] w fun e W => e = .returned (.tuple #[.int .i64 (Tx.numS s).1, .bool (Tx.numS s).2]) ∧ w = W := by
  have hcut := cutMinus_any s w
  have htl : (Tx.tailD s).length ≤ 1000000 := by unfold Tx.tailD; split <;> first | (rw [List.length_drop]; omega) | omega
  have hbel := below_any (Tx.tailD s) w htl
  have hbad := @Tx.numS_bad s
  have hgood := @Tx.numS_good s
  have hbh : Tx.badHead s = (decide (Tx.tailD s = []) || (decide ((Tx.tailD s).getD 0 0 = 48) && decide (s ≠ [48]))) := rfl
  have hrng : -9223372036854775808 ≤ (Tx.belowS (Tx.tailD s)).1 ∧ (Tx.belowS (Tx.tailD s)).1 ≤ 0 := by
    unfold Tx.belowS
    split
    · rename_i h
      unfold Tx.belowOk at h
      rw [Bool.and_eq_true, decide_eq_true_eq] at h
      constructor
      · show -9223372036854775808 ≤ -((Tx.valD _ : Nat) : Int); omega
      · show -((Tx.valD _ : Nat) : Int) ≤ 0; omega
    · exact ⟨by decide, by decide⟩
  have hz0 : (Tx.belowS (Tx.tailD s)).2 = false → (Tx.belowS (Tx.tailD s)).1 = 0 := by
    unfold Tx.belowS
    split
    · intro h; cases h
    · intro _; rfl
  generalize Tx.belowS (Tx.tailD s) = p at *
  obtain ⟨n, ok⟩ := p
  obtain ⟨r0, r1⟩ := hrng
  generalize Tx.negB s = neg at *
  generalize Tx.tailD s = t at *
  generalize Tx.badHead s = bad at *
  generalize Tx.numS s = out at *
  simp only at r0 r1 hgood hbel hz0
  have HZ0 := Lib.hid hz0
  clear hz0
  have HC := Lib.hid hcut
  have HB := Lib.hid hbel
  have HBAD := Lib.hid hbad
  have HGOOD := Lib.hid hgood
  have HBH := Lib.hid hbh
  clear hcut hbel hbad hgood hbh
  by_cases ht : t = []
  · have HR : Hid (out = (0, false)) := Lib.hid (HBAD.out (by rw [HBH.out, decide_eq_true ht, Bool.true_or]))
    go_enter Tryz.func32, Tryz.ntmps32
    go_wp2_with (go_at_call 50; refine HC.out.mono ?_; rintro e w1 ⟨rfl, rfl⟩)
    go_ret2
    exact ⟨ret_ib HR.out.symm, rfl⟩
  · have hpos : 0 < t.length := List.length_pos_iff.2 ht
    obtain ⟨c, hc⟩ : ∃ c, t.getD 0 0 = c := ⟨_, rfl⟩
    obtain ⟨y, hy⟩ : ∃ y, (c.toNat : Int) = y := ⟨_, rfl⟩
    have hyb := byte_bd c
    rw [hy] at hyb
    obtain ⟨y1, y2⟩ := hyb
    have hix : ∀ W : World, (Instr.index 9 (.string ⟨t.toArray⟩) (.int .i64 0)).run Tryz.prog W = .ok (.int .u8 y) W := fun W => by
      have := idx_at t 0 hpos W
      rw [hc, hy] at this
      exact this
    have HY : Hid (decide (t.getD 0 0 = 48) = decide (y = 48)) := Lib.hid (by
      rw [hc, ← hy]
      refine decide_eq_decide.2 ⟨fun h => by rw [h]; rfl, fun h => UInt8.toNat_inj.1 ?_⟩
      have : c.toNat = 48 := by omega
      rw [this]; rfl)
    have HB2 : Hid (bad = (decide (y = 48) && decide (s ≠ [48]))) := Lib.hid (by rw [HBH.out, decide_eq_false ht, Bool.false_or, HY.out])
    have hte : t.isEmpty = false := by rw [List.isEmpty_eq_false_iff]; exact ht
    clear hc hy
    by_cases hbd : y = 48 ∧ ¬ s = [48]
    · obtain ⟨h48, hs⟩ := hbd
      have hs2 : (s == [48]) = false := by rw [beq_eq_false_iff_ne]; exact hs
      have HR : Hid (out = (0, false)) := Lib.hid (HBAD.out (by rw [HB2.out, decide_eq_true h48, decide_eq_true hs]; rfl))
      go_enter Tryz.func32, Tryz.ntmps32
      go_wp2_with (go_at_call 50; refine HC.out.mono ?_; rintro e w1 ⟨rfl, rfl⟩)
      go_ret2
      exact ⟨ret_ib HR.out.symm, rfl⟩
    · have HG := Lib.hid (HGOOD.out (by rw [HB2.out, Bool.and_eq_false_iff, decide_eq_false_iff_not, decide_eq_false_iff_not]; exact Classical.not_and_iff_not_or_not.1 hbd))
      have hcase : (y = 48 ∧ s = [48]) ∨ ¬ y = 48 := by
        by_cases h1 : y = 48
        · by_cases h2 : s = [48]
          · exact .inl ⟨h1, h2⟩
          · exact absurd ⟨h1, h2⟩ hbd
        · exact .inr h1
      have hy48 : y = 48 → s = [48] := fun h => hcase.elim (fun h' => h'.2) (fun h' => absurd h h')
      have HS : Hid ((y = 48 ∧ (s == [48]) = true) ∨ decide (y = 48) = false) := Lib.hid (hcase.elim (fun h => .inl ⟨h.1, by rw [h.2]; rfl⟩) (fun h => .inr (decide_eq_false h)))
      clear hbd hcase hy48
      cases ok with
      | false =>
        obtain rfl := HZ0.out rfl
        have HR : Hid (out = (0, false)) := Lib.hid (by rw [HG.out, if_pos rfl])
        rcases HS.out with ⟨h48, hs⟩ | h48
        · subst h48
          go_enter Tryz.func32, Tryz.ntmps32
          go_wp2_with (first
            | (go_at_call 50; refine HC.out.mono ?_; rintro e w1 ⟨rfl, rfl⟩)
            | (go_at_call 51; refine HB.out.mono ?_; rintro e w1 ⟨rfl, rfl⟩))
          go_ret2
          exact ⟨ret_ib HR.out.symm, rfl⟩
        · have h49 := of_decide_eq_false h48
          go_enter Tryz.func32, Tryz.ntmps32
          go_wp2_with (first
            | (go_at_call 50; refine HC.out.mono ?_; rintro e w1 ⟨rfl, rfl⟩)
            | (go_at_call 51; refine HB.out.mono ?_; rintro e w1 ⟨rfl, rfl⟩))
          go_ret2
          exact ⟨ret_ib HR.out.symm, rfl⟩
      | true =>
        cases neg with
        | true =>
          have HR : Hid (out = (n, true)) := Lib.hid (by rw [HG.out, if_neg (by simp), if_pos rfl])
          rcases HS.out with ⟨h48, hs⟩ | h48
          · subst h48
            go_enter Tryz.func32, Tryz.ntmps32
            go_wp2_with (first
              | (go_at_call 50; refine HC.out.mono ?_; rintro e w1 ⟨rfl, rfl⟩)
              | (go_at_call 51; refine HB.out.mono ?_; rintro e w1 ⟨rfl, rfl⟩))
            go_ret2
            exact ⟨ret_ib HR.out.symm, rfl⟩
          · have h49 := of_decide_eq_false h48
            go_enter Tryz.func32, Tryz.ntmps32
            go_wp2_with (first
              | (go_at_call 50; refine HC.out.mono ?_; rintro e w1 ⟨rfl, rfl⟩)
              | (go_at_call 51; refine HB.out.mono ?_; rintro e w1 ⟨rfl, rfl⟩))
            go_ret2
            exact ⟨ret_ib HR.out.symm, rfl⟩
        | false =>
          by_cases hn : n = -9223372036854775808
          · have HR : Hid (out = (0, false)) := Lib.hid (by rw [HG.out, if_neg (by simp), if_neg (by simp), if_pos hn])
            rcases HS.out with ⟨h48, hs⟩ | h48
            · subst h48
              go_enter Tryz.func32, Tryz.ntmps32
              go_wp2_with (first
                | (go_at_call 50; refine HC.out.mono ?_; rintro e w1 ⟨rfl, rfl⟩)
                | (go_at_call 51; refine HB.out.mono ?_; rintro e w1 ⟨rfl, rfl⟩))
              go_ret2
              exact ⟨ret_ib HR.out.symm, rfl⟩
            · have h49 := of_decide_eq_false h48
              go_enter Tryz.func32, Tryz.ntmps32
              go_wp2_with (first
                | (go_at_call 50; refine HC.out.mono ?_; rintro e w1 ⟨rfl, rfl⟩)
                | (go_at_call 51; refine HB.out.mono ?_; rintro e w1 ⟨rfl, rfl⟩))
              go_ret2
              exact ⟨ret_ib HR.out.symm, rfl⟩
          · have HR : Hid (out = (-n, true)) := Lib.hid (by rw [HG.out, if_neg (by simp), if_neg (by simp), if_neg hn])
            rcases HS.out with ⟨h48, hs⟩ | h48
            · subst h48
              go_enter Tryz.func32, Tryz.ntmps32
              go_wp2_with (first
                | (go_at_call 50; refine HC.out.mono ?_; rintro e w1 ⟨rfl, rfl⟩)
                | (go_at_call 51; refine HB.out.mono ?_; rintro e w1 ⟨rfl, rfl⟩))
              go_ret2
              exact ⟨ret_ib HR.out.symm, rfl⟩
            · have h49 := of_decide_eq_false h48
              go_enter Tryz.func32, Tryz.ntmps32
              go_wp2_with (first
                | (go_at_call 50; refine HC.out.mono ?_; rintro e w1 ⟨rfl, rfl⟩)
                | (go_at_call 51; refine HB.out.mono ?_; rintro e w1 ⟨rfl, rfl⟩))
              go_ret2
              exact ⟨ret_ib HR.out.symm, rfl⟩
end Go.Proofs.YtbkhnnjjpelfcaaGreatDoor
