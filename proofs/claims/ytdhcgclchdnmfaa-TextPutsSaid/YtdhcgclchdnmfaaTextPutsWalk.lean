/- The walk of the law TextPuts. -/
import Derived.Test.YtdhcgclchdnmfaaTxAwake
import Derived.Test.YtdhcgclchdnmfaaTxPut
import Derived.Test.YtdhcgclchdnmfaaTxPutPlain
namespace Go.Proofs.Ytdhcgclchdnmfaa
open Go.RowKit Go.Shelf
set_option linter.unusedVariables false
set_option linter.unusedSimpArgs false

theorem below_drewN {B : Nat} {a w : World} (h : Below B a w) (n : Nat) : Below B a (w.drewN n) := ⟨h.os, h.tape, h.output, h.size, h.block⟩
theorem putS_far {s v : List UInt8} {k : Nat} (h : 300 < k + v.length) : Tx.putS s k v = ([], false) := by
  have hS : Tx.putS s k v = if (decide (0 ≤ (k : Int)) && decide ((k : Int) + v.length ≤ 300)) then (if v = [] then (s, true) else (Tx.putB s (k : Int).toNat v, true)) else ([], false) := rfl
  rw [hS, decide_eq_false (p := (k : Int) + v.length ≤ 300) (by omega), Bool.and_false]
  rfl
theorem putS_in {s v : List UInt8} {k : Nat} (h : k + v.length ≤ 300) : Tx.putS s k v = (if v = [] then (s, true) else (Tx.putB s k v, true)) := by
  have hS : Tx.putS s k v = if (decide (0 ≤ (k : Int)) && decide ((k : Int) + v.length ≤ 300)) then (if v = [] then (s, true) else (Tx.putB s (k : Int).toNat v, true)) else ([], false) := rfl
  rw [hS, decide_eq_true (by omega), decide_eq_true (by omega), Bool.and_self, if_pos rfl, Int.toNat_natCast]

set_option maxRecDepth 100000 in
set_option maxHeartbeats 8000000 in
theorem textPuts_walk (s : List UInt8) (at_ : Int) (v : List UInt8) (w : World) (h0 : 0 ≤ at_) (h1 : at_ ≤ 65535) (hs : s.length ≤ 9223372036854775807) (hv : v.length ≤ 9223372036854775807) :
    Calls Try.prog 5 #[.string ⟨s.toArray⟩, .int .u16 at_, .string ⟨v.toArray⟩] w fun e W => e = .returned (.bool true) ∧ Below w.heap.size w W := by
  have hsI : (s.length : Int) ≤ 9223372036854775807 := by omega
  have hvI : (v.length : Int) ≤ 9223372036854775807 := by omega
  by_cases hlong : 300 < s.length ∨ 300 < v.length
  · have hlong2 : (300 : Int) < s.length ∨ ((s.length : Int) ≤ 300 ∧ (300 : Int) < v.length) := by omega
    rcases hlong2 with g | ⟨g, g2⟩
    all_goals
      go_enter Try.func5, Try.ntmps5
      go_wp2_with (first
        | (go_at_call 8; refine (awake_any _).mono ?_; rintro e w4 ⟨rfl, hb⟩; have HB4 := Lib.hid hb; clear hb))
      go_ret
      exact ⟨rfl, HB4.out⟩
  · obtain ⟨k, hk⟩ : ∃ k : Nat, at_ % 400 = k := ⟨(at_ % 400).toNat, by omega⟩
    have hkt : at_.tmod 400 = k := by rw [Int.tmod_eq_emod_of_nonneg h0]; exact hk
    have hk400 : (k : Int) < 400 := by omega
    have hs3 : (s.length : Int) ≤ 300 := by omega
    have hv3 : (v.length : Int) ≤ 300 := by omega
    have hput := fun W => put_any s k v W (by omega) (by omega) (by omega) (by omega)
    by_cases hfar : 300 < k + v.length
    · rw [putS_far hfar] at hput
      have hfarI : (300 : Int) < (k : Int) + v.length := by omega
      have HP := Lib.hid hput
      clear hput hfar hlong
      go_enter Try.func5, Try.ntmps5
      go_wp2_with fail
      refine (HP.out _).mono ?_
      rintro e w1 ⟨rfl, hb⟩
      have HB1 := Lib.hid hb
      clear hb
      go_wp2_with fail
      refine (awake_any _).mono ?_
      rintro e w2 ⟨rfl, hb⟩
      have HB2 := Lib.hid (HB1.out.trans (hb.mono HB1.out.size))
      clear hb
      go_wp2_with fail
      go_ret
      exact ⟨rfl, HB2.out⟩
    · rw [putS_in (by omega)] at hput
      have hnear : (k : Int) + v.length ≤ 300 := by omega
      by_cases hv0 : v = []
      · rw [if_pos hv0] at hput
        subst hv0
        have HP := Lib.hid hput
        clear hput hfar hlong
        go_enter Try.func5, Try.ntmps5
        go_wp2_with fail
        refine (HP.out _).mono ?_
        rintro e w1 ⟨rfl, hb⟩
        have HB1 := Lib.hid hb
        clear hb
        go_wp2_with fail
        refine (awake_any _).mono ?_
        rintro e w2 ⟨rfl, hb⟩
        have HB2 := Lib.hid (HB1.out.trans (hb.mono HB1.out.size))
        clear hb
        go_wp2_with fail
        go_ret
        exact ⟨rfl, HB2.out⟩
      · rw [if_neg hv0] at hput
        have hie : v.isEmpty = false := by rw [List.isEmpty_eq_false_iff]; exact hv0
        have hTl := Tx.putB_len s v k
        have hTm := Tx.putB_mid s v k
        have hTo := Tx.putB_out s v k
        have hTs := Tx.putB_same s v k
        have hput2 := fun W => put_any (Tx.putB s k v) k v W (by omega) (by omega) (by omega) (by omega)
        rw [putS_in (by omega), if_neg hv0, hTs] at hput2
        generalize Tx.putB s k v = T at *
        simp only at hput hput2
        have hTlI : (T.length : Int) = max (s.length : Int) ((k : Int) + v.length) := by omega
        have hex : (⟨T.toArray⟩ : ByteArray).extract k (k + v.length) = ⟨v.toArray⟩ := by rw [sub_str T k (k + v.length) (by omega) (by omega), hTm]
        have HP := Lib.hid hput
        have HP2 := Lib.hid hput2
        have HTL := Lib.hid hTl
        have HTO := Lib.hid hTo
        have hkT : (k : Int) + v.length ≤ T.length := by omega
        have hT3 : (T.length : Int) ≤ 300 := by omega
        have hmx : max (s.length : Int) ((k : Int) + v.length) = (T.length : Int) := hTlI.symm
        clear hput hput2 hTl hTo hTm hTs hfar hlong hv0 hTlI
        go_enter Try.func5, Try.ntmps5
        go_wp2_with fail
        refine (HP.out _).mono ?_
        rintro e w1 ⟨rfl, hb⟩
        have HB1 := Lib.hid hb
        clear hb
        go_wp2_with fail
        rw [hex]
        clear hex
        go_loopw [6, 10] (fun r i wr => ∃ q : Nat, q ≤ T.length ∧ r = .bool false ∧ i = .int .i64 (q : Int) ∧ Hid (Below w.heap.size w wr)) (fun _ i _ => T.length + 1 - (intOf i).toNat)
        case atStart => exact ⟨0, Nat.zero_le _, rfl, rfl, Lib.hid HB1.out⟩
        case round =>
          obtain ⟨q, hq, rfl, rfl, HB⟩ := hrel
          by_cases hlt : q < T.length
          · have k0 : (0 : Int) ≤ (q : Int) := by omega
            have k1 : (q : Int) < (T.length : Int) := by omega
            by_cases hin : k ≤ q ∧ q < k + v.length
            · obtain ⟨i0, i1⟩ := hin
              have i0I : (k : Int) ≤ (q : Int) := by omega
              have i1I : (q : Int) < (k : Int) + v.length := by omega
              go_wp2
              go_roundw
              case rel => exact ⟨q + 1, by omega, rfl, by go_num, HB⟩
              case measure => simp [intOf]; omega
            · have hval : T.getD q 0 = s.getD q 0 := HTO.out q (by omega)
              have hixT : ∀ W : World, (Instr.index 9 (.string ⟨T.toArray⟩) (.int .i64 (q : Int))).run Try.prog W = .ok (.int .u8 ((s.getD q 0).toNat : Int)) W := fun W => by
                have := idx_at T q hlt W
                rwa [hval] at this
              have houtI : ¬ ((k : Int) ≤ (q : Int) ∧ (q : Int) < (k : Int) + v.length) := by omega
              have hcase : ((q : Int) < k) ∨ ((k : Int) ≤ q ∧ (k : Int) + v.length ≤ q) := by omega
              by_cases hsq : q < s.length
              · have hixS : ∀ W : World, (Instr.index 9 (.string ⟨s.toArray⟩) (.int .i64 (q : Int))).run Try.prog W = .ok (.int .u8 ((s.getD q 0).toNat : Int)) W := fun W => idx_at s q hsq W
                generalize ((s.getD q 0).toNat : Int) = y at *
                have d1 : decide ((q : Int) < (s.length : Int)) = true := by rw [decide_eq_true_eq]; omega
                have d2 : decide ((s.length : Int) ≤ (q : Int)) = false := by rw [decide_eq_false_iff_not]; omega
                have g1 : (q : Int) < (s.length : Int) := by omega
                have d2N : decide (s.length ≤ q) = false := by rw [decide_eq_false_iff_not]; omega
                clear hval hlt hsq houtI hin
                rcases hcase with hcase | ⟨hcase, hcase2⟩
                all_goals
                  go_wp2
                  go_quiet (fail)
                  go_wp2
                  go_roundw
                  case rel => exact ⟨q + 1, by omega, rfl, by go_num, Lib.hid (below_drewN HB.out _)⟩
                  case measure => simp [intOf]; omega
              · have hz : (s.getD q 0) = 0 := by rw [List.getD_eq_getElem?_getD, List.getElem?_eq_none (by omega)]; rfl
                rw [hz] at hixT
                have d1 : decide ((q : Int) < (s.length : Int)) = false := by rw [decide_eq_false_iff_not]; omega
                have d2 : decide ((s.length : Int) ≤ (q : Int)) = true := by rw [decide_eq_true_eq]; omega
                have g2 : (s.length : Int) ≤ (q : Int) := by omega
                have d1N : decide (q < s.length) = false := by rw [decide_eq_false_iff_not]; omega
                have hcase : (q : Int) < k := by have := HTL.out; omega
                clear hval hlt hsq houtI hin hz
                go_wp2
                go_quiet (fail)
                go_wp2
                go_roundw
                case rel => exact ⟨q + 1, by omega, rfl, by go_num, Lib.hid (below_drewN HB.out _)⟩
                case measure => simp [intOf]; omega
          · obtain rfl : q = T.length := by omega
            clear hlt hq
            go_wp2_with fail
            refine (HP2.out _).mono ?_
            rintro e w2 ⟨rfl, hb⟩
            have HB2 := Lib.hid (HB.out.trans (hb.mono HB.out.size))
            clear hb
            go_wp2_with fail
            refine (awake_any _).mono ?_
            rintro e w3 ⟨rfl, hb⟩
            have HB3 := Lib.hid (HB2.out.trans (hb.mono HB2.out.size))
            clear hb
            go_wp2_with fail
            go_ret
            exact ⟨rfl, HB3.out⟩
end Go.Proofs.Ytdhcgclchdnmfaa
