/- The contract of the statements' rising. -/
import Derived.Test.YtfbfejeccfoioaaHsBase
import Derived.Test.YtfbfejeccfoioaaHsPlain
import Derived.Sort.Walk0
import Derived.LoopTactic
import Derived.BigQuiet
namespace Go.Proofs.Ytfbfejeccfoioaa
open Go.RowKit Go.Shelf
set_option linter.unusedVariables false
set_option linter.unusedSimpArgs false

theorem all_false {n m : Nat} {p : Nat → Bool} (h : m < n) (hp : p m = false) : (List.range n).all p = false := by
  rw [List.all_eq_false]
  exact ⟨m, List.mem_range.2 h, by simp [hp]⟩

set_option maxRecDepth 100000 in
set_option maxHeartbeats 8000000 in
theorem rising_any (aF : Option Addr) (cF : Nat) (fs : List (List UInt8 × List UInt8)) (w : World) (hF : Fds w aF cF fs) (hln : fs.length ≤ 9223372036854775807) :
    Calls Try.prog 6 #[.slice aF fs.length cF] w fun e w' => e = .returned (.bool (Hs.risF fs)) ∧ Below w.heap.size w w' := by
  have HF := Lib.hid hF
  have HG := Lib.hid (show ∀ i, Hs.okAt fs i = (decide (i ≤ 100) && decide ((fs.getD i ([], [])).1.length ≤ 300) && decide ((fs.getD i ([], [])).2.length ≤ 300) && (i == 0 || decide ((fs.getD (i - 1) ([], [])).1 < (fs.getD i ([], [])).1))) from fun _ => rfl)
  have HLN := Lib.hid (fun i => hF.len (k := i))
  have hR : Hs.risF fs = (List.range fs.length).all (Hs.okAt fs) := rfl
  rw [hR]
  have hln' : (fs.length : Int) ≤ 9223372036854775807 := by omega
  clear hF hR
  generalize Hs.okAt fs = fB at *
  go_enter Try.func6, Try.ntmps6
  go_wp2
  go_loopw [3] (fun i wr => ∃ n : Nat, n ≤ fs.length ∧ n ≤ 101 ∧ i = .int .i64 n ∧ Hid (∀ j, j < n → fB j = true) ∧ Hid (Below w.heap.size w wr)) (fun i _ => fs.length - (intOf i).toNat)
  case atStart => exact ⟨0, Nat.zero_le _, by decide, rfl, Lib.hid fun j h => by omega, Lib.hid (Below.refl _ _)⟩
  case round =>
    obtain ⟨n, hn, hn1, rfl, HJ, HK⟩ := hrel
    by_cases hlt : n < fs.length
    · have hF1 := HF.out.later HK.out
      obtain ⟨b, off, rfl, hb, hc⟩ := hF1.get (by omega)
      obtain ⟨q1, q2⟩ := hc n hlt
      have k0 : (0 : Int) ≤ (n : Int) := by omega
      have k1 : (n : Int) < (fs.length : Int) := by omega
      have HX := Lib.hid (HG.out n)
      have HZ : Hid (0 < n → wr.cell? ⟨b, off + (n - 1) * 2, none⟩ = some (.string ⟨(fs.getD (n - 1) ([], [])).1.toArray⟩)) := Lib.hid fun h => (hc (n - 1) (by omega)).1
      obtain ⟨lu, lv⟩ := HLN.out n
      clear hc hF1
      generalize (fs.getD n ([], [])).1 = u at *
      generalize (fs.getD n ([], [])).2 = v at *
      generalize (fs.getD (n - 1) ([], [])).1 = z at *
      by_cases hbig0 : 100 < n
      · have HQ : Hid (fB n = false) := Lib.hid (by rw [HX.out, decide_eq_false (p := n ≤ 100) (by omega)]; rfl)
        have b0 : (100 : Int) < (n : Int) := by omega
        clear HX HZ hbig0
        go_wp2
        go_quiet (fail)
        go_wp2
        go_ret
        exact ⟨by rw [all_false hlt HQ.out]; rfl, below_drewN HK.out _⟩
      have b0 : decide ((100 : Int) < (n : Int)) = false := by rw [decide_eq_false_iff_not]; omega
      by_cases hbig1 : 300 < u.length
      · have HQ : Hid (fB n = false) := Lib.hid (by rw [HX.out, decide_eq_false (p := u.length ≤ 300) (by omega)]; simp)
        have b1 : (300 : Int) < (u.length : Int) := by omega
        clear HX HZ hbig1
        go_wp2
        go_quiet (fail)
        go_wp2
        go_ret
        exact ⟨by rw [all_false hlt HQ.out]; rfl, below_drewN HK.out _⟩
      have b1 : decide ((300 : Int) < (u.length : Int)) = false := by rw [decide_eq_false_iff_not]; omega
      by_cases hbig2 : 300 < v.length
      · have HQ : Hid (fB n = false) := Lib.hid (by rw [HX.out, decide_eq_false (p := v.length ≤ 300) (by omega)]; simp)
        have b2 : (300 : Int) < (v.length : Int) := by omega
        clear HX HZ hbig1 hbig2
        go_wp2
        go_quiet (fail)
        go_wp2
        go_ret
        exact ⟨by rw [all_false hlt HQ.out]; rfl, below_drewN HK.out _⟩
      have b2 : decide ((300 : Int) < (v.length : Int)) = false := by rw [decide_eq_false_iff_not]; omega
      have HX' : Hid (fB n = (n == 0 || decide (z < u))) := Lib.hid (by rw [HX.out, decide_eq_true (p := n ≤ 100) (by omega), decide_eq_true (p := u.length ≤ 300) (by omega), decide_eq_true (p := v.length ≤ 300) (by omega)]; rfl)
      clear HX hbig1 hbig2
      cases n with
      | zero =>
        have HQ : Hid (fB 0 = true) := Lib.hid (by rw [HX'.out]; rfl)
        simp only [Nat.zero_mul, Nat.add_zero] at q1 q2
        have k2 : (0 : Int) < (fs.length : Int) := by omega
        have hc0 : fs.length ≠ 0 := by omega
        clear HX' HZ k0 k1 hbig0 b0
        go_wp2
        go_quiet (fail)
        go_wp2
        go_roundw
        case rel => exact ⟨1, by omega, by decide, by go_num, Lib.hid fun j hj => by obtain rfl : j = 0 := by omega
                                                                                     exact HQ.out, Lib.hid (below_drewN HK.out _)⟩
        case measure => simp [intOf]; omega
      | succ m =>
        have q3 := HZ.out (by omega)
        rw [Nat.add_sub_cancel] at q3
        have HX2 : Hid (fB (m + 1) = decide (z < u)) := Lib.hid (by rw [HX'.out]; rfl)
        clear HX' HZ
        have w1' : IntKind.i64.wrap (m : Int) = (m : Int) := IntWalk.i64_in _ (by omega)
        have g1 : (0 : Int) < (m : Int) + 1 := by omega
        have b0' : decide ((100 : Int) < (m : Int) + 1) = false := by rw [decide_eq_false_iff_not]; omega
        have b0n : decide (100 < m + 1) = false := by rw [decide_eq_false_iff_not]; omega
        clear b0
        have g2 : (m : Int) < (fs.length : Int) := by omega
        have g3 : (m : Int) + 1 < (fs.length : Int) := by omega
        by_cases hzu : z < u
        · have HQ : Hid (fB (m + 1) = true) := Lib.hid (by rw [HX2.out, decide_eq_true hzu])
          have hbl : Op.bytesLess z u = true := by rw [bytesLess_eq, decide_eq_true hzu]
          clear HX2 hzu
          go_wp2
          go_quiet (fail)
          go_wp2
          go_roundw
          case rel => exact ⟨m + 1 + 1, by omega, by omega, by go_num, Lib.hid fun j hj => by
                        rcases Nat.lt_or_ge j (m + 1) with h | h
                        · exact HJ.out j h
                        · obtain rfl : j = m + 1 := by omega
                          exact HQ.out, Lib.hid (below_drewN HK.out _)⟩
          case measure => simp [intOf]; omega
        · have HQ : Hid (fB (m + 1) = false) := Lib.hid (by rw [HX2.out, decide_eq_false hzu])
          have hbl : Op.bytesLess z u = false := by rw [bytesLess_eq, decide_eq_false hzu]
          clear HX2 hzu
          go_wp2
          go_quiet (fail)
          go_wp2
          go_ret
          exact ⟨by rw [all_false hlt HQ.out]; rfl, below_drewN HK.out _⟩
    · obtain rfl : n = fs.length := by omega
      have HA : Hid ((List.range fs.length).all fB = true) := Lib.hid (List.all_eq_true.2 fun j hj => HJ.out j (List.mem_range.1 hj))
      go_wp2
      go_ret
      exact ⟨by rw [HA.out]; rfl, HK.out⟩
end Go.Proofs.Ytfbfejeccfoioaa
