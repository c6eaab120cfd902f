/- The contract of the reference's MayClaims. -/
import Derived.Test.YtahmddopbmjepaaDoorRB25
import Derived.Deep.RegionHeld3
namespace Go.Proofs.YtahmddopbmjepaaDoor
open Go.RowKit

set_option maxRecDepth 100000 in
set_option maxHeartbeats 16000000 in
theorem refMayC_any (a : Option Addr) (cap : Nat) (l : List Ow.C) (w : World) (hS : Cls w a cap l) :
    Calls Tryd.prog 9 #[.slice a l.length cap] w fun e w' => e = .returned (.bool (Ow.mayB l)) ∧ Below w.heap.size w w' := by
  have HS := Lib.hid hS
  have hc1 := hS.1
  have hc2 := hS.2.1
  clear hS
  obtain ⟨q, hq⟩ : ∃ q, Ow.mayB l = q := ⟨_, rfl⟩
  rw [hq]
  have HF : Hid (∀ k, k < l.length → ¬ Ow.okAt l k → q = false) := Lib.hid fun k hk h => by rw [← hq]; exact Ow.mayB_false hk h
  have HT : Hid ((∀ k, k < l.length → Ow.okAt l k) → q = true) := Lib.hid fun h => by rw [← hq]; exact Ow.mayB_true h
  clear hq
  go_enter Tryd.func9, Tryd.ntmps9
  go_wp2
  go_loopw [3] (fun i wr => ∃ k : Nat, k ≤ l.length ∧ i = .int .i64 k ∧ Hid (∀ j, j < k → Ow.okAt l j) ∧ Hid (Below w.heap.size w wr)) (fun i _ => l.length - (intOf i).toNat)
  case atStart => exact ⟨0, Nat.zero_le _, rfl, Lib.hid fun j h => by omega, Lib.hid (Below.refl _ _)⟩
  case round =>
    obtain ⟨k, hk, rfl, HO, HB⟩ := hrel
    by_cases hlt : k < l.length
    · obtain ⟨b, off, rfl, hb, c1, c2, c3, c4⟩ := (HS.out.later HB.out).cells hlt
      have hfit := HS.out.fit hlt
      have k0 : (0 : Int) ≤ (k : Int) := by omega
      have k1 : (k : Int) < (l.length : Int) := by omega
      have ek1 : IntKind.i64.wrap ((k : Int) + 1) = (k : Int) + 1 := IntWalk.i64_in _ (by omega)
      obtain ⟨⟨f, t, n, e⟩, hy⟩ : ∃ y, l.getD k Ow.z = y := ⟨_, rfl⟩
      rw [hy] at c1 c2 c3 c4 hfit
      have HY := Lib.hid hy
      simp only at c1 c2 c3 c4
      unfold Ow.FitC at hfit
      simp only at hfit
      clear hy
      by_cases hok : Ow.okC ⟨f, t, n, e⟩
      · have hok' := hok
        unfold Ow.okC at hok'
        simp only at hok'
        obtain ⟨o1, o2, o3, o4, o5, o6, o7⟩ := hok'
        have HOK := Lib.hid hok
        clear hok
        by_cases hz : k = 0
        · have HOA : Hid (Ow.okAt l k) := Lib.hid ⟨by rw [HY.out]; exact HOK.out, fun h => by omega⟩
          have hz' : ¬ (0 : Int) < (k : Int) := by omega
          have hzN : ¬ 0 < k := by omega
          have hzD : decide (0 < k) = false := by rw [decide_eq_false_iff_not]; exact hzN
          clear hz
          go_upto_region 7 with (fail)
          go_quiet (fail)
          go_wp2
          go_roundw
          case rel =>
            refine ⟨k + 1, by omega, by go_num, Lib.hid fun j hj => ?_, Lib.hid (below_drewN (HB.out.alloc HB.out.size _) _)⟩
            rcases Nat.lt_or_ge j k with h | h
            · exact HO.out j h
            · obtain rfl : j = k := by omega
              exact HOA.out
          case measure => simp [intOf]; omega
        · obtain ⟨b', off', hbb, hb', d1, d2, d3, d4⟩ := (HS.out.later HB.out).cells (k := k - 1) (by omega)
          cases hbb
          have hz' : (0 : Int) < (k : Int) := by omega
          have hzN : 0 < k := by omega
          have hzD : decide (0 < k) = true := by rw [decide_eq_true_eq]; exact hzN
          have ekm : IntKind.i64.wrap ((k : Int) - 1) = (k : Int) - 1 := IntWalk.i64_in _ (by omega)
          have km0 : (0 : Int) ≤ (k : Int) - 1 := by omega
          have km1 : (k : Int) - 1 < (l.length : Int) := by omega
          have ekn : ((k : Int) - 1).toNat = k - 1 := by omega
          have hfit2 := HS.out.fit (k := k - 1) (by omega)
          obtain ⟨⟨pf, pt, pn, pe⟩, hy2⟩ : ∃ y, l.getD (k - 1) Ow.z = y := ⟨_, rfl⟩
          rw [hy2] at d1 d2 d3 d4 hfit2
          have HY2 := Lib.hid hy2
          simp only at d1 d2 d3 d4
          unfold Ow.FitC at hfit2
          simp only at hfit2
          clear hy2
          by_cases hp : f ≤ pt
          · obtain rfl : q = false := HF.out k hlt (fun h => by
              have := (h.2 (by omega)).1
              rw [HY.out, HY2.out] at this
              simp only at this
              omega)
            go_upto_region 7 with (fail)
            go_quiet (fail)
            go_wp2
            go_ret
            exact ⟨rfl, below_drewN (HB.out.alloc HB.out.size _) _⟩
          · have hp' : pt < f := by omega
            cases htc : Ow.touch ⟨pf, pt, pn, pe⟩ ⟨f, t, n, e⟩ with
            | true =>
              obtain rfl : q = false := HF.out k hlt (fun h => by
                have := (h.2 (by omega)).2
                rw [HY.out, HY2.out, htc] at this
                cases this)
              have ewp : IntKind.i64.wrap (pt + 1) = pt + 1 := IntWalk.i64_in _ (by omega)
              obtain ⟨t1, t2, t3⟩ := Ow.touch_iff.1 htc
              simp only at t1 t2 t3
              subst t1 t2 t3
              clear htc
              go_upto_region 7 with (fail)
              go_quiet (fail)
              go_wp2
              go_ret
              exact ⟨rfl, below_drewN (HB.out.alloc HB.out.size _) _⟩
            | false =>
              have HOA : Hid (Ow.okAt l k) := Lib.hid ⟨by rw [HY.out]; exact HOK.out, fun h => by rw [HY.out, HY2.out]; exact ⟨hp', htc⟩⟩
              have ewp : IntKind.i64.wrap (pt + 1) = pt + 1 := IntWalk.i64_in _ (by omega)
              by_cases t1 : f = pt + 1
              · subst t1
                by_cases t2 : n = pn
                · subst t2
                  have t3 : (e == pe) = false := by
                    rw [beq_eq_false_iff_ne]
                    intro h
                    have h2 : Ow.touch ⟨pf, pt, n, pe⟩ ⟨pt + 1, t, n, e⟩ = true := Ow.touch_iff.2 ⟨rfl, rfl, h⟩
                    rw [h2] at htc
                    cases htc
                  clear htc
                  go_upto_region 7 with (fail)
                  go_quiet (fail)
                  go_wp2
                  go_roundw
                  case rel =>
                    refine ⟨k + 1, by omega, by go_num, Lib.hid fun j hj => ?_, Lib.hid (below_drewN (HB.out.alloc HB.out.size _) _)⟩
                    rcases Nat.lt_or_ge j k with h | h
                    · exact HO.out j h
                    · obtain rfl : j = k := by omega
                      exact HOA.out
                  case measure => simp [intOf]; omega
                · have t3 : (n == pn) = false := by rw [beq_eq_false_iff_ne]; exact t2
                  clear htc t2
                  go_upto_region 7 with (fail)
                  go_quiet (fail)
                  go_wp2
                  go_roundw
                  case rel =>
                    refine ⟨k + 1, by omega, by go_num, Lib.hid fun j hj => ?_, Lib.hid (below_drewN (HB.out.alloc HB.out.size _) _)⟩
                    rcases Nat.lt_or_ge j k with h | h
                    · exact HO.out j h
                    · obtain rfl : j = k := by omega
                      exact HOA.out
                  case measure => simp [intOf]; omega
              · have t3 : (f == pt + 1) = false := by rw [beq_eq_false_iff_ne]; exact t1
                clear htc t1
                go_upto_region 7 with (fail)
                go_quiet (fail)
                go_wp2
                go_roundw
                case rel =>
                  refine ⟨k + 1, by omega, by go_num, Lib.hid fun j hj => ?_, Lib.hid (below_drewN (HB.out.alloc HB.out.size _) _)⟩
                  rcases Nat.lt_or_ge j k with h | h
                  · exact HO.out j h
                  · obtain rfl : j = k := by omega
                    exact HOA.out
                case measure => simp [intOf]; omega
      · have HBAD : Hid (q = false) := Lib.hid (HF.out k hlt (fun h => by have := h.1; rw [HY.out] at this; exact hok this))
        obtain rfl := HBAD.out
        unfold Ow.okC at hok
        simp only at hok
        clear HF HT HO
        by_cases x0 : f < 0
        · go_wp2
          go_ret
          exact ⟨rfl, HB.out.alloc HB.out.size _⟩
        · skip
          by_cases x1 : t < f
          · go_wp2
            go_ret
            exact ⟨rfl, HB.out.alloc HB.out.size _⟩
          · skip
            by_cases x2 : 16384 ≤ t
            · go_wp2
              go_ret
              exact ⟨rfl, HB.out.alloc HB.out.size _⟩
            · skip
              by_cases x3 : n < 0
              · go_wp2
                go_ret
                exact ⟨rfl, HB.out.alloc HB.out.size _⟩
              · skip
                by_cases x4 : 8 ≤ n
                · go_wp2
                  go_ret
                  exact ⟨rfl, HB.out.alloc HB.out.size _⟩
                · skip
                  by_cases x5 : e < 1
                  · go_wp2
                    go_ret
                    exact ⟨rfl, HB.out.alloc HB.out.size _⟩
                  · skip
                    have x6 : 9007199254740992 < e := by omega
                    go_wp2
                    go_ret
                    exact ⟨rfl, HB.out.alloc HB.out.size _⟩
    · obtain rfl : q = true := HT.out (fun j hj => HO.out j (by omega))
      go_wp2
      go_ret
      exact ⟨rfl, HB.out⟩
end Go.Proofs.YtahmddopbmjepaaDoor
