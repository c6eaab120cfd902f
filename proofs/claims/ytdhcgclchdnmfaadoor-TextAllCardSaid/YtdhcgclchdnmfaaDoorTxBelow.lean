/- The contract of the developers' below: minus the value of digits. -/
import Derived.Test.YtdhcgclchdnmfaaDoorTxBase
import Derived.Test.YtdhcgclchdnmfaaDoorTxNumPlain
import Derived.WalkMore
namespace Go.Proofs.YtdhcgclchdnmfaaDoor
open Go.RowKit Go.Shelf
set_option linter.unusedVariables false
set_option linter.unusedSimpArgs false

theorem ret_ib {a c : Int} {b d : Bool} (h : (a, b) = (c, d)) : Ending.returned (.tuple #[.int .i64 a, .bool b]) = .returned (.tuple #[.int .i64 c, .bool d]) := by
  simp only [Prod.mk.injEq] at h
  rw [h.1, h.2]

/-- the quotient of a number below 0. -/
theorem quo_neg (d : Int) (h0 : 0 ≤ d) (h9 : d ≤ 9) : (-9223372036854775808 + d).tdiv 10 = -((9223372036854775808 - d) / 10) := by
  rw [show (-9223372036854775808 + d) = -(9223372036854775808 - d) by omega, Int.neg_tdiv, Int.tdiv_eq_ediv_of_nonneg (by omega)]

set_option maxRecDepth 100000 in
set_option maxHeartbeats 8000000 in
theorem below_any (s : List UInt8) (w : World) (hl : s.length ≤ 1000000) : Calls Tryd.prog 17 #[.string ⟨s.toArray⟩] w fun e W => e = .returned (.tuple #[.int .i64 (Tx.belowS s).1, .bool (Tx.belowS s).2]) ∧ w = W := by
  have hlt1 : (s.length : Int) ≤ 1000000 := by omega
  go_enter Tryd.func17, Tryd.ntmps17
  go_wp2
  go_step3
  go_wp2
  go_step3
  go_wp2
  go_loop [2, 4] (fun u i => ∃ (q : Nat) (U : Int), q ≤ s.length ∧ i = .int .i64 (q : Int) ∧ u = .int .i64 (-U) ∧ 0 ≤ U ∧ U ≤ 9223372036854775808 ∧ Hid ((Tx.valD (s.take q) : Int) = U ∧ ∀ j, j < q → Tx.isD (s.getD j 0) = true)) (fun _ i => (s.length : Int).toNat + 1 - (intOf i).toNat)
  case atStart => exact ⟨0, 0, Nat.zero_le _, rfl, rfl, by decide, by decide, Lib.hid ⟨rfl, fun j h => by omega⟩⟩
  case round =>
    obtain ⟨q, U, hq, rfl, rfl, u0, uM, HQ⟩ := hrel
    by_cases hlt : q < s.length
    · obtain ⟨c, hc⟩ : ∃ c, s.getD q 0 = c := ⟨_, rfl⟩
      obtain ⟨y, hy⟩ : ∃ y, (c.toNat : Int) = y := ⟨_, rfl⟩
      have hyb := byte_bd c
      rw [hy] at hyb
      obtain ⟨y1, y2⟩ := hyb
      have hix : ∀ W : World, (Instr.index 9 (.string ⟨s.toArray⟩) (.int .i64 (q : Int))).run Tryd.prog W = .ok (.int .u8 y) W := fun W => by
        have := idx_at s q hlt W
        rw [hc, hy] at this
        exact this
      have HD := Lib.hid (isD_iff hy)
      have HC := Lib.hid hc
      have HY := Lib.hid hy
      have k0 : (0 : Int) ≤ (q : Int) := by omega
      have k1 : (q : Int) < (s.length : Int) := by omega
      have HN1 : Hid (Tx.isD c = false → Tx.belowS s = (0, false)) := Lib.hid fun h => Tx.below_digit hlt (by rw [HC.out]; exact h)
      have HN2 : Hid (9223372036854775808 < 10 * U + (y - 48) → Tx.isD c = true → Tx.belowS s = (0, false)) := Lib.hid fun h hd => Tx.below_far hlt (by
        rw [HC.out]; have h1 := HQ.out.1; have h2 := HY.out; rw [HD.out] at hd; simp only [Bool.and_eq_true, decide_eq_true_eq] at hd; omega)
      clear hc hy
      by_cases h48 : y < 48
      · have HR := Lib.hid (HN1.out (by rw [HD.out, decide_eq_false (by omega)]; rfl))
        go_wp2
        try rw [Exit.noGoto_ret]
        go_ret2
        exact ⟨ret_ib HR.out.symm, rfl⟩
      · by_cases h57 : 57 < y
        · have HR := Lib.hid (HN1.out (by rw [HD.out, decide_eq_false (p := y ≤ 57) (by omega), Bool.and_false]))
          go_wp2
          try rw [Exit.noGoto_ret]
          go_ret2
          exact ⟨ret_ib HR.out.symm, rfl⟩
        · have hdt : Tx.isD c = true := by rw [HD.out, decide_eq_true (by omega), decide_eq_true (by omega)]; rfl
          have b1 : (48 : Int) ≤ y := by omega
          have b2 : y ≤ 57 := by omega
          have HDT := Lib.hid hdt
          clear hdt h48 h57
          have hquo := quo_neg (y - 48) (by omega) (by omega)
          by_cases hov : 9223372036854775808 < 10 * U + (y - 48)
          · have HR := Lib.hid (HN2.out hov HDT.out)
            have hgt : -U < (-9223372036854775808 + (y - 48)).tdiv 10 := by omega
            clear hov hquo
            go_wp2
            try rw [Exit.noGoto_ret]
            go_ret2
            exact ⟨ret_ib HR.out.symm, rfl⟩
          · have hle : ¬ (-U < (-9223372036854775808 + (y - 48)).tdiv 10) := by omega
            have hb10 : 10 * U + (y - 48) ≤ 9223372036854775808 := by omega
            have HST : Hid ((Tx.valD (s.take (q + 1)) : Int) = 10 * U + (y - 48) ∧ ∀ j, j < q + 1 → Tx.isD (s.getD j 0) = true) := Lib.hid ⟨by
              rw [Tx.take_at hlt, Tx.valD_snoc, HC.out]; have h1 := HQ.out.1; have h2 := HY.out; omega, fun j hj => by
              rcases Nat.lt_or_ge j q with h | h
              · exact HQ.out.2 j h
              · obtain rfl : j = q := by omega
                rw [HC.out]; exact HDT.out⟩
            clear hov hquo
            go_wp2
            go_round
            case rel => exact ⟨q + 1, 10 * U + (y - 48), by omega, by go_num, by go_num, by omega, by omega, HST⟩
            case measure => simp [intOf]; omega
    · obtain rfl : q = s.length := by omega
      have HR : Hid (Tx.belowS s = (-U, true)) := Lib.hid (by
        have h1 := HQ.out.1
        rw [List.take_length] at h1
        rw [Tx.below_end HQ.out.2 (by omega), h1])
      clear HQ hlt hq
      go_wp2
      try rw [Exit.noGoto_ret]
      go_ret2
      exact ⟨ret_ib HR.out.symm, rfl⟩
end Go.Proofs.YtdhcgclchdnmfaaDoor
