/- The contract of the developers' Add, over Go's own table of powers of ten. -/
import Derived.Test.YtdhcgclchdnmfaaDoorTxNumber
import Derived.Test.YtdhcgclchdnmfaaDoorShelf
import Derived.Lib.LaidTab
import Derived.Lib.AppendIntMem
namespace Go.Proofs.YtdhcgclchdnmfaaDoor
open Go.RowKit Go.Shelf
set_option linter.unusedVariables false
set_option linter.unusedSimpArgs false

/-- Go's own table of powers of ten lies as its text lays it. -/
def Tab (w : World) : Prop := Lib.TabIs Tryd.prog w "internal/strconv.uint64pow10" .u64 Lib.pow10Tab

theorem tab_lt {w : World} (h : Tab w) : ∃ g, Tryd.prog.globalNamed "internal/strconv.uint64pow10" = some g ∧ g < w.heap.size := by
  unfold Tab Lib.TabIs World.var? at h
  cases hg : Tryd.prog.globalNamed "internal/strconv.uint64pow10" with
  | none => simp [hg] at h
  | some g =>
    refine ⟨g, rfl, ?_⟩
    simp only [hg, Option.bind_some] at h
    rcases Nat.lt_or_ge g w.heap.size with h' | h'
    · exact h'
    · rw [Array.getElem?_eq_none h'] at h; simp at h

theorem tab_later {w w' : World} (h : Tab w) (hb : Below w.heap.size w w') : Tab w' := by
  obtain ⟨g, hg, hlt⟩ := tab_lt h
  unfold Tab Lib.TabIs World.var? at h ⊢
  simp only [hg, Option.bind_some] at h ⊢
  rw [hb.block g hlt]
  exact h

theorem digs_dec : ∀ u : Nat, Dig.digs u = Lib.decDigits u := by
  intro u
  induction u using Nat.strongRecOn with
  | ind u ih =>
    rw [Dig.digs, Lib.decDigits]
    by_cases h : u < 10
    · rw [if_pos h, dif_pos h]
    · rw [if_neg h, dif_neg h, ih _ (by omega)]

theorem itoa_dec (n : Int) : Lib.itoa n = Dig.dec n := by
  unfold Lib.itoa Dig.dec
  by_cases h : n < 0
  · rw [if_pos h, if_pos h, digs_dec, show n.natAbs = (-n).toNat by omega]
  · rw [if_neg h, if_neg h, digs_dec]

theorem itoa_any (n : Int) (h0 : -9223372036854775808 ≤ n) (h1 : n ≤ 9223372036854775807) (w : World) (ht : Tab w) :
    Calls Tryd.prog 23 #[.int .i64 n] w fun e w' => e = .returned (.string ⟨(Dig.dec n).toArray⟩) ∧ Below w.heap.size w w' := by
  refine (Tryd.strconv_Itoa n h0 h1 w ht).mono ?_
  rintro e w4 ⟨rfl, k4, os4, rfl⟩
  exact ⟨by rw [itoa_dec], Lib.below_grow w.heap.size w (Nat.le_refl _) k4 os4⟩

theorem ret_sb' {a c : List UInt8} {b d : Bool} (h : (a, b) = (c, d)) : Ending.returned (.tuple #[.string ⟨a.toArray⟩, .bool b]) = .returned (.tuple #[.string ⟨c.toArray⟩, .bool d]) := by
  simp only [Prod.mk.injEq] at h
  rw [h.1, h.2]

/-- the sum as the machine has it: whether it went too far. -/
theorem sum_gone {x n S : Int} (hx0 : -9223372036854775808 ≤ x) (hx1 : x ≤ 9223372036854775807) (hn0 : -9223372036854775808 ≤ n) (hn1 : n ≤ 9223372036854775807) (hS : IntKind.i64.wrap (x + n) = S) :
    (decide (x < S) != decide (0 < n)) = !(decide (-9223372036854775808 ≤ x + n) && decide (x + n ≤ 9223372036854775807)) ∧ (-9223372036854775808 ≤ x + n → x + n ≤ 9223372036854775807 → S = x + n) ∧ -9223372036854775808 ≤ S ∧ S ≤ 9223372036854775807 := by
  rw [IntKind.wrap_i64] at hS
  refine ⟨?_, by omega, by omega, by omega⟩
  by_cases h1 : x < S <;> by_cases h2 : 0 < n <;> by_cases h3 : -9223372036854775808 ≤ x + n <;> by_cases h4 : x + n ≤ 9223372036854775807 <;> simp only [h1, h2, h3, h4, decide_true, decide_false] <;> first | rfl | (exfalso; omega)

set_option maxRecDepth 100000 in
set_option maxHeartbeats 4000000 in
theorem add_any (s : List UInt8) (n : Int) (w : World) (ht : Tab w) (hl : s.length ≤ 1000000) (hn0 : -9223372036854775808 ≤ n) (hn1 : n ≤ 9223372036854775807) :
    Calls Tryd.prog 11 #[.string ⟨s.toArray⟩, .int .i64 n] w fun e W => e = .returned (.tuple #[.string ⟨(Tx.addS s n).1.toArray⟩, .bool (Tx.addS s n).2]) ∧ Below w.heap.size w W := by
  have hnum := number_any s w hl
  have hrange : -9223372036854775808 ≤ (Tx.numS s).1 ∧ (Tx.numS s).1 ≤ 9223372036854775807 := by
    cases hp : (Tx.numS s).2 with
    | true => exact (Tx.num_is (Prod.ext rfl hp)).2
    | false => rw [Tx.num_no hp]; exact ⟨by decide, by decide⟩
  have hA : Tx.addS s n = if (Tx.numS s).2 && decide (-9223372036854775808 ≤ (Tx.numS s).1 + n) && decide ((Tx.numS s).1 + n ≤ 9223372036854775807) then (Dig.dec ((Tx.numS s).1 + n), true) else ([], false) := rfl
  generalize (Tx.numS s).1 = x at *
  generalize (Tx.numS s).2 = b at *
  obtain ⟨hx0, hx1⟩ := hrange
  obtain ⟨S, hS⟩ : ∃ S, IntKind.i64.wrap (x + n) = S := ⟨_, rfl⟩
  obtain ⟨f1, f2, f3, f4⟩ := sum_gone hx0 hx1 hn0 hn1 hS
  have HNUM := Lib.hid hnum
  have HA := Lib.hid hA
  have HF1 := Lib.hid f1
  have HF2 := Lib.hid f2
  have HD := Lib.hid (itoa_any S f3 f4 w ht)
  clear hnum hA f1 f2 ht
  obtain ⟨far, hfar⟩ : ∃ far, (decide (x < S) != decide (0 < n)) = far := ⟨_, rfl⟩
  have hfar2 : (!(decide (x < S) == decide (0 < n))) = far := hfar
  cases b with
  | false =>
    have HR := Lib.hid (show Tx.addS s n = ([], false) by rw [HA.out]; rfl)
    go_enter Tryd.func11, Tryd.ntmps11
    go_wp2_with fail
    refine HNUM.out.mono ?_
    rintro e w2 ⟨rfl, rfl⟩
    go_wp2_with fail
    go_ret2
    exact ⟨ret_sb' HR.out.symm, Below.refl _ _⟩
  | true =>
    cases far with
    | true =>
      have HR := Lib.hid (show Tx.addS s n = ([], false) by
        have h := HF1.out
        rw [hfar] at h
        rw [HA.out, Bool.true_and]
        exact if_neg (by intro h'; rw [h'] at h; cases h))
      go_enter Tryd.func11, Tryd.ntmps11
      go_wp2_with fail
      refine HNUM.out.mono ?_
      rintro e w2 ⟨rfl, rfl⟩
      go_wp2_with fail
      go_ret2
      exact ⟨ret_sb' HR.out.symm, Below.refl _ _⟩
    | false =>
      have hin : (decide (-9223372036854775808 ≤ x + n) && decide (x + n ≤ 9223372036854775807)) = true := by
        have h := HF1.out
        rw [hfar] at h
        cases h' : (decide (-9223372036854775808 ≤ x + n) && decide (x + n ≤ 9223372036854775807)) with
        | true => rfl
        | false => rw [h'] at h; cases h
      have HR := Lib.hid (show Tx.addS s n = (Dig.dec S, true) by
        rw [HA.out, Bool.true_and, if_pos hin]
        rw [Bool.and_eq_true, decide_eq_true_eq, decide_eq_true_eq] at hin
        rw [HF2.out hin.1 hin.2])
      clear hin
      go_enter Tryd.func11, Tryd.ntmps11
      go_wp2_with fail
      refine HNUM.out.mono ?_
      rintro e w2 ⟨rfl, rfl⟩
      go_wp2_with fail
      refine HD.out.mono ?_
      rintro e w3 ⟨rfl, hb⟩
      have HB3 := Lib.hid hb
      clear hb
      go_wp2_with fail
      go_ret2
      exact ⟨ret_sb' HR.out.symm, HB3.out⟩
end Go.Proofs.YtdhcgclchdnmfaaDoor
