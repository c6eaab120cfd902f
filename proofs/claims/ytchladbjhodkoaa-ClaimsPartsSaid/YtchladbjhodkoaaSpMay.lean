/- The contract of the reference's MaySpans. -/
import Derived.Test.YtchladbjhodkoaaSpNorm
namespace Go.Proofs.Ytchladbjhodkoaa
open Go.RowKit

set_option maxRecDepth 100000 in
set_option maxHeartbeats 2000000 in
open Classical in
theorem refMay_some (b off cap : Nat) (l : List Sp.S) (w : World) (hl : l.length ≤ 9223372036854775807) (hbl : b < w.heap.size) (hc : ∀ k, k < l.length → w.cell? ⟨b, off + k * 2, none⟩ = some (.int .i64 (l.getD k (0, 0)).1) ∧ w.cell? ⟨b, off + k * 2 + 1, none⟩ = some (.int .i64 (l.getD k (0, 0)).2)) :
    Calls Try.prog 29 #[.slice (some ⟨b, off, none⟩) l.length cap] w fun e w' => e = .returned (.bool (decide (Sp.Valid l))) ∧ Below w.heap.size w w' := by
  have HC := Lib.hid hc
  clear hc
  go_enter Try.func29, Try.ntmps29
  go_wp2
  go_loopw [2, 3] (fun r i wr => ∃ k : Nat, k ≤ l.length ∧ r = .bool false ∧ i = .int .i64 k ∧ Hid (Sp.Valid (l.take k)) ∧ Hid (Below w.heap.size w wr)) (fun _ i _ => l.length - (intOf i).toNat)
  case atStart => exact ⟨0, Nat.zero_le _, rfl, rfl, Lib.hid ⟨by simp, by simp⟩, Lib.hid (Below.refl _ _)⟩
  case round =>
    obtain ⟨k, hk, rfl, rfl, HK, HB⟩ := hrel
    by_cases hlt : k < l.length
    · obtain ⟨c1, c2⟩ := HC.out k hlt
      rw [← HB.out.cell (p := ⟨b, off + k * 2, none⟩) hbl] at c1
      rw [← HB.out.cell (p := ⟨b, off + k * 2 + 1, none⟩) hbl] at c2
      generalize hs : l.getD k (0, 0) = s at c1 c2
      obtain ⟨x, y⟩ := s
      have HS := Lib.hid hs
      clear hs
      simp only at c1 c2
      have kI : (k : Int) < (l.length : Int) := by omega
      have kI0 : (0 : Int) ≤ (k : Int) := Int.natCast_nonneg _
      by_cases hx : x < 0
      · have hxb : decide (x < 0) = true := by simpa using hx
        have hnv : ¬ Sp.Valid l := by
          intro hv
          have := (valid_take hlt).1 (valid_of_take hv (k + 1))
          obtain ⟨_, m1, m2, m3, m4⟩ := this
          rw [HS.out] at m1 m2 m3 m4
          omega
        have HNV := Lib.hid hnv
        clear hnv
        go_upto_region 4 with (fail)
        go_quiet (fail)
        go_wp2
        go_ret
        exact ⟨by rw [decide_eq_false HNV.out]; rfl, below_drewN HB.out _⟩
      · have hxb : decide (x < 0) = false := by simpa using hx
        by_cases hy : y < x
        · have hyb : decide (y < x) = true := by simpa using hy
          have hnv : ¬ Sp.Valid l := by
            intro hv
            have := (valid_take hlt).1 (valid_of_take hv (k + 1))
            obtain ⟨_, m1, m2, m3, m4⟩ := this
            rw [HS.out] at m1 m2 m3 m4
            omega
          have HNV := Lib.hid hnv
          clear hnv
          go_upto_region 4 with (fail)
          go_quiet (fail)
          go_wp2
          go_ret
          exact ⟨by rw [decide_eq_false HNV.out]; rfl, below_drewN HB.out _⟩
        · have hyb : decide (y < x) = false := by simpa using hy
          by_cases hz : 16384 ≤ y
          · have hzb : decide (16384 ≤ y) = true := by simpa using hz
            have hnv : ¬ Sp.Valid l := by
              intro hv
              have := (valid_take hlt).1 (valid_of_take hv (k + 1))
              obtain ⟨_, m1, m2, m3, m4⟩ := this
              rw [HS.out] at m1 m2 m3 m4
              omega
            have HNV := Lib.hid hnv
            clear hnv
            go_upto_region 4 with (fail)
            go_quiet (fail)
            go_wp2
            go_ret
            exact ⟨by rw [decide_eq_false HNV.out]; rfl, below_drewN HB.out _⟩
          · have hzb : decide (16384 ≤ y) = false := by simpa using hz
            by_cases hk0 : 0 < k
            · obtain ⟨d1, d2⟩ := HC.out (k - 1) (by omega)
              rw [← HB.out.cell (p := ⟨b, off + (k - 1) * 2 + 1, none⟩) hbl] at d2
              clear d1
              have hpv : (l.getD (k - 1) (0, 0)).2 < 16384 ∧ 0 ≤ (l.getD (k - 1) (0, 0)).2 := by
                have hk1 : k - 1 < l.length := by omega
                have e1 : l.getD (k - 1) (0, 0) = l[k - 1] := by simp [List.getD, hk1]
                have := HK.out.1 (l[k - 1]) (List.mem_take_iff_getElem.2 ⟨k - 1, by omega, rfl⟩)
                rw [e1]; omega
              generalize ht : l.getD (k - 1) (0, 0) = t at d2 hpv
              obtain ⟨x0, y0⟩ := t
              have HT := Lib.hid ht
              clear ht
              simp only at d2 hpv
              obtain ⟨pv1, pv2⟩ := hpv
              have hkb : decide ((0 : Int) < (k : Int)) = true := by simp; omega
              have e1 : IntKind.i64.wrap ((k : Int) - 1) = (k : Int) - 1 := IntWalk.i64_in _ (by omega)
              have e2 : 0 ≤ (k : Int) - 1 := by omega
              have e3 : ((k : Int) - 1).toNat = k - 1 := by omega
              have e4 : (k : Int) - 1 < (l.length : Int) := by omega
              have e5 : IntKind.i64.wrap (y0 + 1) = y0 + 1 := IntWalk.i64_in _ (by omega)
              by_cases hj : x ≤ y0 + 1
              · have hjb : decide (x ≤ y0 + 1) = true := by simpa using hj
                have hnv : ¬ Sp.Valid l := by
                  intro hv
                  have := (valid_take hlt).1 (valid_of_take hv (k + 1))
                  obtain ⟨_, m1, m2, m3, m4⟩ := this
                  rw [HS.out] at m1 m2 m3 m4
                  have m5 := m4 hk0; rw [HT.out] at m5; simp only at m5; omega
                have HNV := Lib.hid hnv
                clear hnv
                go_upto_region 4 with (fail)
                go_quiet (fail)
                go_wp2
                go_ret
                exact ⟨by rw [decide_eq_false HNV.out]; rfl, below_drewN HB.out _⟩
              · have hjb : decide (x ≤ y0 + 1) = false := by simpa using hj
                have hv2 : Sp.Valid (l.take (k + 1)) := (valid_take hlt).2 ⟨HK.out, by unfold mayAt; rw [HS.out]; exact ⟨by omega, by omega, by omega, by rw [HT.out]; intro _; show y0 + 1 < x; omega⟩⟩
                have HV2 := Lib.hid hv2
                clear hv2
                go_upto_region 4 with (fail)
                go_quiet (fail)
                go_wp2
                go_roundw
                case rel => exact ⟨k + 1, by omega, rfl, by go_num, HV2, Lib.hid (below_drewN HB.out _)⟩
                case measure => simp [intOf]; omega
            · have hkb : decide ((0 : Int) < (k : Int)) = false := by simp; omega
              have hv2 : Sp.Valid (l.take (k + 1)) := (valid_take hlt).2 ⟨HK.out, by unfold mayAt; rw [HS.out]; exact ⟨by omega, by omega, by omega, fun h => absurd h hk0⟩⟩
              have HV2 := Lib.hid hv2
              clear hv2
              go_upto_region 4 with (fail)
              go_quiet (fail)
              go_wp2
              go_roundw
              case rel => exact ⟨k + 1, by omega, rfl, by go_num, HV2, Lib.hid (below_drewN HB.out _)⟩
              case measure => simp [intOf]; omega
    · have hv : Sp.Valid l := by
        have := HK.out
        rw [List.take_of_length_le (by omega)] at this
        exact this
      have HV := Lib.hid hv
      clear hv
      go_wp2
      go_ret
      exact ⟨by rw [decide_eq_true HV.out]; rfl, HB.out⟩

theorem refMay_nil (a : Option Addr) (cap : Nat) (w : World) :
    Calls Try.prog 29 #[.slice a 0 cap] w fun e w' => e = .returned (.bool true) ∧ w = w' := by
  go_enter Try.func29, Try.ntmps29
  go_wp2
  go_loop [2, 3] (fun r i => r = .bool false ∧ i = .int .i64 0) (fun _ _ => 0)
  case atStart => exact ⟨rfl, rfl⟩
  case round =>
    obtain ⟨rfl, rfl⟩ := hrel
    go_wp2
    go_ret
    exact ⟨rfl, rfl⟩

open Classical in
theorem refMay_any (a : Option Addr) (cap : Nat) (l : List Sp.S) (w : World) (h : Spans w a cap l) :
    Calls Try.prog 29 #[.slice a l.length cap] w fun e w' => e = .returned (.bool (decide (Sp.Valid l))) ∧ Below w.heap.size w w' := by
  obtain ⟨_, h1, _, h3⟩ := h
  rcases h3 with rfl | ⟨b, off, rfl, hb, hc⟩
  · refine (refMay_nil a cap w).mono fun e w' ⟨he, hw⟩ => ⟨?_, hw ▸ Below.refl _ _⟩
    rw [he, decide_eq_true]
    exact ⟨by simp, by simp⟩
  · exact refMay_some b off cap l w h1 hb hc
end Go.Proofs.Ytchladbjhodkoaa
