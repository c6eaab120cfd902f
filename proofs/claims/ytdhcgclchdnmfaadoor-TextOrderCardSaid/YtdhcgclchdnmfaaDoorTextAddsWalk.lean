/- The walk of the law TextAdds. -/
import Derived.Test.YtdhcgclchdnmfaaDoorTxAdd
import Derived.Test.YtdhcgclchdnmfaaDoorTxAwake
import Derived.Test.YtdhcgclchdnmfaaDoorTxWrong
import Derived.Test.YtdhcgclchdnmfaaDoorTxRefAdd
namespace Go.Proofs.YtdhcgclchdnmfaaDoor
open Go.RowKit Go.Shelf
set_option linter.unusedVariables false
set_option linter.unusedSimpArgs false

theorem dec_len {n : Int} (h1 : -9223372036854775808 ≤ n) (h2 : n ≤ 9223372036854775807) : (Dig.dec n).length ≤ 20 := by
  unfold Dig.dec
  split
  · have := Dig.digs_len20 (u := (-n).toNat) (by omega)
    simp only [List.length_cons]; omega
  · have := Dig.digs_len20 (u := n.toNat) (by omega)
    omega
namespace Tx
def maxS : List UInt8 := [57, 50, 50, 51, 51, 55, 50, 48, 51, 54, 56, 53, 52, 55, 55, 53, 56, 48, 55]
def minS : List UInt8 := [45, 57, 50, 50, 51, 51, 55, 50, 48, 51, 54, 56, 53, 52, 55, 55, 53, 56, 48, 56]
theorem num_max : numS maxS = (9223372036854775807, true) := by
  rw [numS_good (s := maxS) (by decide)]
  decide
theorem num_min : numS minS = (-9223372036854775808, true) := by
  rw [numS_good (s := minS) (by decide)]
  decide
theorem num_x : numS [120] = (0, false) := num_bad_byte (c := 120) (by simp) (by decide) (by decide)
theorem add_max {f : Int} (h : 0 ≤ f) : addS maxS (1 + f) = ([], false) := by
  unfold addS
  rw [num_max]
  rw [decide_eq_false (p := (9223372036854775807, true).fst + (1 + f) ≤ 9223372036854775807) (by show ¬ ((9223372036854775807 : Int) + (1 + f) ≤ 9223372036854775807); omega), Bool.and_false]
  rfl
theorem add_min {f : Int} (h : 0 ≤ f) : addS minS (-1 - f) = ([], false) := by
  unfold addS
  rw [num_min]
  rw [decide_eq_false (p := -9223372036854775808 ≤ (-9223372036854775808, true).fst + (-1 - f)) (by show ¬ ((-9223372036854775808 : Int) ≤ -9223372036854775808 + (-1 - f)); omega), Bool.and_false]
  rfl
theorem add_x : addS [120] 1 = ([], false) := by
  unfold addS
  rw [num_x]
  rfl
theorem add_dec {n m : Int} (n0 : -9223372036854775808 ≤ n) (n1 : n ≤ 9223372036854775807) : addS (Dig.dec n) m = if decide (-9223372036854775808 ≤ n + m) && decide (n + m ≤ 9223372036854775807) then (Dig.dec (n + m), true) else ([], false) := by
  unfold addS
  rw [num_dec n n0 n1, Bool.true_and]
end Tx

set_option maxRecDepth 100000 in
set_option maxHeartbeats 8000000 in
theorem textAdds_go (n m far : Int) (w : World) (ht : Tab w) (n0 : -9223372036854775808 ≤ n) (n1 : n ≤ 9223372036854775807) (m0 : -2147483648 ≤ m) (m1 : m ≤ 2147483647) (f0 : 0 ≤ far) (f1 : far ≤ 255) :
    Calls Tryd.prog 4 #[.int .i64 n, .int .i32 m, .int .u8 far] w fun e W => e = .returned (.bool true) ∧ Below w.heap.size w W := by
  obtain ⟨S, hS⟩ : ∃ S, IntKind.i64.wrap (n + m) = S := ⟨_, rfl⟩
  obtain ⟨g1, g2, g3, g4⟩ := sum_far n0 n1 (n := m) (by omega) (by omega) hS
  have hd := fun W => digits_any n W n0 n1
  have hdS := fun W => digits_any S W g3 g4
  have hlen := dec_len n0 n1
  have hlenS := dec_len g3 g4
  have hadd := fun W hT => add_any (Dig.dec n) m W hT (by omega) (by omega) (by omega)
  rw [Tx.add_dec n0 n1] at hadd
  have cMax : ∀ W, Tab W → Calls Tryd.prog 11 #[.string ⟨#[57, 50, 50, 51, 51, 55, 50, 48, 51, 54, 56, 53, 52, 55, 55, 53, 56, 48, 55]⟩, .int .i64 (1 + far)] W fun e W' => e = .returned (.tuple #[.string ⟨#[]⟩, .bool false]) ∧ Below W.heap.size W W' := fun W hT => by
    have := add_any Tx.maxS (1 + far) W hT (by decide) (by omega) (by omega)
    rw [Tx.add_max f0] at this
    exact this
  have cMin : ∀ W, Tab W → Calls Tryd.prog 11 #[.string ⟨#[45, 57, 50, 50, 51, 51, 55, 50, 48, 51, 54, 56, 53, 52, 55, 55, 53, 56, 48, 56]⟩, .int .i64 (-1 - far)] W fun e W' => e = .returned (.tuple #[.string ⟨#[]⟩, .bool false]) ∧ Below W.heap.size W W' := fun W hT => by
    have := add_any Tx.minS (-1 - far) W hT (by decide) (by omega) (by omega)
    rw [Tx.add_min f0] at this
    exact this
  have cX : ∀ W, Tab W → Calls Tryd.prog 11 #[.string ⟨#[120]⟩, .int .i64 1] W fun e W' => e = .returned (.tuple #[.string ⟨#[]⟩, .bool false]) ∧ Below W.heap.size W W' := fun W hT => by
    have := add_any [120] 1 W hT (by decide) (by omega) (by omega)
    rw [Tx.add_x] at this
    exact this
  have HT := Lib.hid ht
  have HMX := Lib.hid cMax
  have HMN := Lib.hid cMin
  have HX := Lib.hid cX
  clear cMax cMin cX ht
  cases hin : (decide (-9223372036854775808 ≤ n + m) && decide (n + m ≤ 9223372036854775807)) with
  | false =>
    rw [hin] at hadd g1
    rw [if_neg (by simp)] at hadd
    simp only [Bool.not_false] at g1
    have g1b : (!(decide (n ≤ S) == decide (0 ≤ m))) = true := g1
    generalize Dig.dec n = D at *
    have HD := Lib.hid hd
    have HA := Lib.hid hadd
    clear hd hdS hadd hin g2 hlenS
    go_enter Tryd.func4, Tryd.ntmps4
    go_wp2_with fail
    refine (HD.out _).mono ?_
    rintro e w1 ⟨rfl, hb⟩
    have HB1 := Lib.hid hb
    have HT1 := Lib.hid (tab_later HT.out hb)
    clear hb
    go_wp2_with fail
    refine (HA.out _ HT1.out).mono ?_
    rintro e w2 ⟨rfl, hb⟩
    have HB2 := Lib.hid (HB1.out.trans (hb.mono HB1.out.size))
    clear hb
    go_wp2_with fail
    refine (awake_any _).mono ?_
    rintro e w3 ⟨rfl, hb⟩
    have HB3 := Lib.hid (HB2.out.trans (hb.mono HB2.out.size))
    clear hb
    go_wp2_with fail
    go_ret
    exact ⟨rfl, HB3.out⟩
  | true =>
    rw [hin] at hadd g1
    rw [if_pos rfl] at hadd
    simp only [Bool.not_true] at g1
    have g1b : (!(decide (n ≤ S) == decide (0 ≤ m))) = false := g1
    rw [Bool.and_eq_true, decide_eq_true_eq, decide_eq_true_eq] at hin
    have hSn := g2 hin.1 hin.2
    rw [← hSn] at hadd
    have hback := fun W hT => add_any (Dig.dec S) (-m) W hT (by omega) (by omega) (by omega)
    rw [Tx.add_dec g3 g4, show S + -m = n by omega, decide_eq_true n0, decide_eq_true n1, if_pos (by rfl)] at hback
    generalize Dig.dec n = D at *
    generalize Dig.dec S = E at *
    have HD := Lib.hid hd
    have HA := Lib.hid hadd
    have HDS := Lib.hid hdS
    have HBK := Lib.hid hback
    have hw : n + m = S := hSn.symm
    clear hd hdS hadd hback hin g2 hSn hS
    go_enter Tryd.func4, Tryd.ntmps4
    go_wp2_with fail
    refine (HD.out _).mono ?_
    rintro e w1 ⟨rfl, hb⟩
    have HB1 := Lib.hid hb
    have HT1 := Lib.hid (tab_later HT.out hb)
    clear hb
    go_wp2_with fail
    refine (HA.out _ HT1.out).mono ?_
    rintro e w2 ⟨rfl, hb⟩
    have HB2 := Lib.hid (HB1.out.trans (hb.mono HB1.out.size))
    have HT2 := Lib.hid (tab_later HT1.out hb)
    clear hb
    go_wp2_with fail
    refine (HBK.out _ HT2.out).mono ?_
    rintro e w3 ⟨rfl, hb⟩
    have HB3 := Lib.hid (HB2.out.trans (hb.mono HB2.out.size))
    have HT3 := Lib.hid (tab_later HT2.out hb)
    clear hb
    go_wp2_with fail
    refine (HMX.out _ HT3.out).mono ?_
    rintro e w4 ⟨rfl, hb⟩
    have HB4 := Lib.hid (HB3.out.trans (hb.mono HB3.out.size))
    have HT4 := Lib.hid (tab_later HT3.out hb)
    clear hb
    go_wp2_with fail
    refine (HMN.out _ HT4.out).mono ?_
    rintro e w5 ⟨rfl, hb⟩
    have HB5 := Lib.hid (HB4.out.trans (hb.mono HB4.out.size))
    have HT5 := Lib.hid (tab_later HT4.out hb)
    clear hb
    go_wp2_with fail
    refine (HX.out _ HT5.out).mono ?_
    rintro e w6 ⟨rfl, hb⟩
    have HB6 := Lib.hid (HB5.out.trans (hb.mono HB5.out.size))
    have HT6 := Lib.hid (tab_later HT5.out hb)
    clear hb
    go_wp2_with fail
    refine (HDS.out _).mono ?_
    rintro e w7 ⟨rfl, hb⟩
    have HB7 := Lib.hid (HB6.out.trans (hb.mono HB6.out.size))
    have HT7 := Lib.hid (tab_later HT6.out hb)
    clear hb
    go_wp2_with fail
    refine (HD.out _).mono ?_
    rintro e w8 ⟨rfl, hb⟩
    have HB8 := Lib.hid (HB7.out.trans (hb.mono HB7.out.size))
    have HT8 := Lib.hid (tab_later HT7.out hb)
    clear hb
    go_wp2_with fail
    refine (awake_any _).mono ?_
    rintro e w9 ⟨rfl, hb⟩
    have HB9 := Lib.hid (HB8.out.trans (hb.mono HB8.out.size))
    have HT9 := Lib.hid (tab_later HT8.out hb)
    clear hb
    go_wp2_with fail
    go_ret
    exact ⟨rfl, HB9.out⟩
end Go.Proofs.YtdhcgclchdnmfaaDoor
