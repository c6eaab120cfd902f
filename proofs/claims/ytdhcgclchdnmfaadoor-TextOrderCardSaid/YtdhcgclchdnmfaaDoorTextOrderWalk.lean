/- The walk of the law TextOrder. -/
import Derived.Test.YtdhcgclchdnmfaaDoorTxAdd
import Derived.Test.YtdhcgclchdnmfaaDoorTxAwake
import Derived.Test.YtdhcgclchdnmfaaDoorTextAddsWalk
namespace Go.Proofs.YtdhcgclchdnmfaaDoor
open Go.RowKit Go.Shelf
set_option linter.unusedVariables false
set_option linter.unusedSimpArgs false

theorem add_in {n m S : Int} (h : n + m = S) (n0 : -9223372036854775808 ≤ n) (n1 : n ≤ 9223372036854775807) (m0 : -9223372036854775808 ≤ m) (m1 : m ≤ 9223372036854775807) (s0 : -9223372036854775808 ≤ S) (s1 : S ≤ 9223372036854775807) (W : World) (hT : Tab W) :
    Calls Tryd.prog 11 #[.string ⟨(Dig.dec n).toArray⟩, .int .i64 m] W fun e W' => e = .returned (.tuple #[.string ⟨(Dig.dec S).toArray⟩, .bool true]) ∧ Below W.heap.size W W' := by
  have hl := dec_len n0 n1
  have := add_any (Dig.dec n) m W hT (by omega) m0 m1
  rw [Tx.add_dec n0 n1, h, decide_eq_true s0, decide_eq_true s1, if_pos (by rfl)] at this
  exact this

set_option maxRecDepth 100000 in
set_option maxHeartbeats 8000000 in
theorem textOrder_go (n a b : Int) (w : World) (ht : Tab w) (n0 : -2147483648 ≤ n) (n1 : n ≤ 2147483647) (a0 : -2147483648 ≤ a) (a1 : a ≤ 2147483647) (b0 : -2147483648 ≤ b) (b1 : b ≤ 2147483647) :
    Calls Tryd.prog 5 #[.int .i32 n, .int .i32 a, .int .i32 b] w fun e W => e = .returned (.bool true) ∧ Below w.heap.size w W := by
  have HT0 := Lib.hid ht
  clear ht
  have hd := fun W => digits_any n W (by omega) (by omega)
  obtain ⟨P, hP⟩ : ∃ P, n + a = P := ⟨_, rfl⟩
  obtain ⟨U, hU⟩ : ∃ U, n + b = U := ⟨_, rfl⟩
  obtain ⟨Q, hQ⟩ : ∃ Q, P + b = Q := ⟨_, rfl⟩
  have hQ2 : U + a = Q := by omega
  have c1 := add_in hP (by omega) (by omega) (by omega) (by omega) (by omega) (by omega)
  have c2 := add_in hQ (by omega) (by omega) (by omega) (by omega) (by omega) (by omega)
  have c3 := add_in hU (by omega) (by omega) (by omega) (by omega) (by omega) (by omega)
  have c4 := add_in hQ2 (by omega) (by omega) (by omega) (by omega) (by omega) (by omega)
  have c5 := fun W => number_any (Dig.dec Q) W (by have := dec_len (n := Q) (by omega) (by omega); omega)
  rw [Tx.num_dec Q (by omega) (by omega)] at c5
  generalize Dig.dec n = D at *
  generalize Dig.dec P = DP at *
  generalize Dig.dec U = DU at *
  generalize Dig.dec Q = DQ at *
  simp only at c5
  have HS := Lib.hid (And.intro hd (And.intro c1 (And.intro c2 (And.intro c3 (And.intro c4 c5)))))
  have q0 : -9223372036854775808 ≤ Q := by omega
  have q1 : Q ≤ 9223372036854775807 := by omega
  clear hd c1 c2 c3 c4 c5 hU hQ2
  go_enter Tryd.func5, Tryd.ntmps5
  have HB0 := Lib.hid (Below.refl w.heap.size w)
  go_wp2_with fail
  refine (HS.out.1 _).mono ?_
  rintro e w1 ⟨rfl, hb⟩
  have HB1 := Lib.hid (HB0.out.trans (hb.mono HB0.out.size))
  have HT1 := Lib.hid (tab_later HT0.out hb)
  clear hb
  go_wp2_with fail
  refine (HS.out.2.1 _ HT1.out).mono ?_
  rintro e w2 ⟨rfl, hb⟩
  have HB2 := Lib.hid (HB1.out.trans (hb.mono HB1.out.size))
  have HT2 := Lib.hid (tab_later HT1.out hb)
  clear hb
  go_wp2_with fail
  refine (HS.out.2.2.1 _ HT2.out).mono ?_
  rintro e w3 ⟨rfl, hb⟩
  have HB3 := Lib.hid (HB2.out.trans (hb.mono HB2.out.size))
  have HT3 := Lib.hid (tab_later HT2.out hb)
  clear hb
  go_wp2_with fail
  refine (HS.out.2.2.2.1 _ HT3.out).mono ?_
  rintro e w4 ⟨rfl, hb⟩
  have HB4 := Lib.hid (HB3.out.trans (hb.mono HB3.out.size))
  have HT4 := Lib.hid (tab_later HT3.out hb)
  clear hb
  go_wp2_with fail
  refine (HS.out.2.2.2.2.1 _ HT4.out).mono ?_
  rintro e w5 ⟨rfl, hb⟩
  have HB5 := Lib.hid (HB4.out.trans (hb.mono HB4.out.size))
  have HT5 := Lib.hid (tab_later HT4.out hb)
  clear hb
  go_wp2_with fail
  refine (HS.out.2.2.2.2.2 _).mono ?_
  rintro e w6 ⟨rfl, rfl⟩
  have HB6 := HB5
  have HT6 := HT5
  go_wp2_with fail
  refine (awake_any _).mono ?_
  rintro e w7 ⟨rfl, hb⟩
  have HB7 := Lib.hid (HB6.out.trans (hb.mono HB6.out.size))
  have HT7 := Lib.hid (tab_later HT6.out hb)
  clear hb
  go_wp2_with fail
  go_ret
  exact ⟨rfl, HB7.out⟩
end Go.Proofs.YtdhcgclchdnmfaaDoor
