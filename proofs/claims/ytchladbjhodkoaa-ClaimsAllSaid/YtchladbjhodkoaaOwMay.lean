/- The contracts of claims.May and of the reference's MayClaims. -/
import Derived.Test.YtchladbjhodkoaaOwStretch
import Derived.Deep.RegionHeld3
namespace Go.Proofs.Ytchladbjhodkoaa
open Go.RowKit

set_option maxRecDepth 100000 in
set_option maxHeartbeats 16000000 in
theorem may_any (a : Option Addr) (cap : Nat) (l : List Ow.C) (w : World) (hS : Cls w a cap l) :
    Calls Try.prog 10 #[.slice a l.length cap] w fun e w' => e = .returned (.bool (Ow.mayB l)) ∧ Below w.heap.size w w' := by
  have HS := Lib.hid hS
  have hc1 := hS.1
  have hc2 := hS.2.1
  clear hS
  obtain ⟨q, hq⟩ : ∃ q, Ow.mayB l = q := ⟨_, rfl⟩
  rw [hq]
  have HF : Hid (∀ k, k < l.length → ¬ Ow.okAt l k → q = false) := Lib.hid fun k hk h => by rw [← hq]; exact Ow.mayB_false hk h
  have HT : Hid ((∀ k, k < l.length → Ow.okAt l k) → q = true) := Lib.hid fun h => by rw [← hq]; exact Ow.mayB_true h
  clear hq
  go_enter Try.func10, Try.ntmps10
  go_wp2
  go_loopw [7] (fun i wr => ∃ k : Nat, k ≤ l.length ∧ i = .int .i64 k ∧ Hid (∀ j, j < k → Ow.okAt l j) ∧ Hid (Below w.heap.size w wr)) (fun i _ => l.length - (intOf i).toNat)
  case atStart => exact ⟨0, Nat.zero_le _, rfl, Lib.hid fun j h => by omega, Lib.hid (Below.refl _ _)⟩
  case round =>
    obtain ⟨k, hk, rfl, HO, HB⟩ := hrel
    by_cases hlt : k < l.length
    · obtain ⟨b, off, rfl, hb, c1, c2, c3, c4⟩ := (HS.out.later HB.out).cells hlt
      have hfit := HS.out.fit hlt
      have k0 : (0 : Int) ≤ (k : Int) := by omega
      have k1 : (k : Int) < (l.length : Int) := by omega
      have ek1 : IntKind.i64.wrap ((k : Int) + 1) = (k : Int) + 1 := IntWalk.i64_in _ (by omega)
      obtain ⟨⟨f, t, n, e⟩, hy⟩ : ∃ y, l.getD k Ow.z = y := ⟨_, rfl⟩
      rw [hy] at c1 c2 c3 c4 hfit
      have HY := Lib.hid hy
      simp only at c1 c2 c3 c4
      unfold Ow.FitC at hfit
      simp only at hfit
      clear hy
      by_cases hok : Ow.okC ⟨f, t, n, e⟩
      · have hok' := hok
        unfold Ow.okC at hok'
        simp only at hok'
        obtain ⟨o1, o2, o3, o4, o5, o6, o7⟩ := hok'
        have HOK := Lib.hid hok
        clear hok
        by_cases hz : k = 0
        · have HOA : Hid (Ow.okAt l k) := Lib.hid ⟨by rw [HY.out]; exact HOK.out, fun h => by omega⟩
          have hz' : ¬ (0 : Int) < (k : Int) := by omega
          have hzN : ¬ 0 < k := by omega
          have hzD : decide (0 < k) = false := by rw [decide_eq_false_iff_not]; exact hzN
          clear hz
          go_upto_region 8 with (fail)
          go_quiet (fail)
          go_wp2
          go_roundw
          case rel =>
            refine ⟨k + 1, by omega, by go_num, Lib.hid fun j hj => ?_, Lib.hid (below_drewN (HB.out.alloc HB.out.size _) _)⟩
            rcases Nat.lt_or_ge j k with h | h
            · exact HO.out j h
            · obtain rfl : j = k := by omega
              exact HOA.out
          case measure => simp [intOf]; omega
        · obtain ⟨j, rfl⟩ : ∃ j, k = j + 1 := ⟨k - 1, by omega⟩
          obtain ⟨b', off', hbb, hb', d1, d2, d3, d4⟩ := (HS.out.later HB.out).cells (k := j) (by omega)
          cases hbb
          have hjj : j + 1 - 1 = j := by omega
          have hz' : (0 : Int) < (j : Int) + 1 := by omega
          have hzN : 0 < j + 1 := by omega
          have hzD : decide (0 < j + 1) = true := by rw [decide_eq_true_eq]; exact hzN
          have ekm : IntKind.i64.wrap ((j : Int) + 1 - 1) = (j : Int) := by rw [IntWalk.i64_in _ (by omega)]; omega
          have ekj : IntKind.i64.wrap (j : Int) = (j : Int) := IntWalk.i64_in _ (by omega)
          have ek2 : IntKind.i64.wrap ((j : Int) + 1 + 1) = (j : Int) + 1 + 1 := IntWalk.i64_in _ (by omega)
          have km0 : (0 : Int) ≤ (j : Int) := by omega
          have km1 : (j : Int) < (l.length : Int) := by omega
          have km2 : (j : Int) + 1 < (l.length : Int) := by omega
          have hfit2 := HS.out.fit (k := j) (by omega)
          obtain ⟨⟨pf, pt, pn, pe⟩, hy2⟩ : ∃ y, l.getD j Ow.z = y := ⟨_, rfl⟩
          rw [hy2] at d1 d2 d3 d4 hfit2
          have HY2 := Lib.hid hy2
          simp only at d1 d2 d3 d4
          unfold Ow.FitC at hfit2
          simp only at hfit2
          clear hy2
          by_cases hp : f ≤ pt
          · obtain rfl : q = false := HF.out (j + 1) hlt (fun h => by
              have := (h.2 (by omega)).1
              rw [hjj, HY.out, HY2.out] at this
              simp only at this
              omega)
            go_upto_region 8 with (fail)
            go_quiet (fail)
            go_wp2
            go_ret
            exact ⟨rfl, below_drewN (HB.out.alloc HB.out.size _) _⟩
          · have hp' : pt < f := by omega
            have hpD : decide (f ≤ pt) = false := by rw [decide_eq_false_iff_not]; exact hp
            cases htc : Ow.touch ⟨pf, pt, pn, pe⟩ ⟨f, t, n, e⟩ with
            | true =>
              obtain rfl : q = false := HF.out (j + 1) hlt (fun h => by
                have := (h.2 (by omega)).2
                rw [hjj, HY.out, HY2.out, htc] at this
                cases this)
              go_upto_region 8 with (fail)
              have hbw : Below wr.heap.size wr (wr.alloc (.cells #[.int .i64 f, .int .i64 t, .int .i64 n, .int .i64 e] 49)) := (Below.refl _ wr).alloc (Nat.le_refl _) _
              have g1 : (wr.alloc (.cells #[.int .i64 f, .int .i64 t, .int .i64 n, .int .i64 e] 49)).cell? ⟨wr.heap.size, 0, none⟩ = some (.int .i64 f) := by rw [World.cell?_alloc_new]; rfl
              have g2 : (wr.alloc (.cells #[.int .i64 f, .int .i64 t, .int .i64 n, .int .i64 e] 49)).cell? ⟨wr.heap.size, 1, none⟩ = some (.int .i64 t) := by rw [World.cell?_alloc_new]; rfl
              have g3 : (wr.alloc (.cells #[.int .i64 f, .int .i64 t, .int .i64 n, .int .i64 e] 49)).cell? ⟨wr.heap.size, 2, none⟩ = some (.int .i64 n) := by rw [World.cell?_alloc_new]; rfl
              have g4 : (wr.alloc (.cells #[.int .i64 f, .int .i64 t, .int .i64 n, .int .i64 e] 49)).cell? ⟨wr.heap.size, 3, none⟩ = some (.int .i64 e) := by rw [World.cell?_alloc_new]; rfl
              have z1 := (hbw.cell (p := ⟨b, off + j * 4, none⟩) hb).trans d1
              have z2 := (hbw.cell (p := ⟨b, off + j * 4 + 1, none⟩) hb).trans d2
              have z3 := (hbw.cell (p := ⟨b, off + j * 4 + 2, none⟩) hb).trans d3
              have z4 := (hbw.cell (p := ⟨b, off + j * 4 + 3, none⟩) hb).trans d4
              have hbs : b < (wr.alloc (.cells #[.int .i64 f, .int .i64 t, .int .i64 n, .int .i64 e] 49)).heap.size := by simp; omega
              have hws : wr.heap.size < (wr.alloc (.cells #[.int .i64 f, .int .i64 t, .int .i64 n, .int .i64 e] 49)).heap.size := by simp
              have HBA := Lib.hid (HB.out.alloc HB.out.size (.cells #[.int .i64 f, .int .i64 t, .int .i64 n, .int .i64 e] 49))
              generalize wr.alloc (.cells #[.int .i64 f, .int .i64 t, .int .i64 n, .int .i64 e] 49) = wb at *
              generalize wr.heap.size = wz at *
              have HCON : Hid (∀ W, Calls Try.prog 32 #[.agg #[.int .i64 pf, .int .i64 pt, .int .i64 pn, .int .i64 pe], .agg #[.int .i64 f, .int .i64 t, .int .i64 n, .int .i64 e]] W fun e W' => e = .returned (.bool true) ∧ Below W.heap.size W W') := Lib.hid fun W => by
                have := continues_any ⟨pf, pt, pn, pe⟩ ⟨f, t, n, e⟩ W (by simp only; omega) (by simp only; omega)
                rwa [htc] at this
              clear hbw c1 c2 c3 c4 d1 d2 d3 d4 htc
              go_region_held3 (fun w' => ((w'.cell? ⟨b, off + j * 4, none⟩ = some (.int .i64 pf) ∧ w'.cell? ⟨b, off + j * 4 + 1, none⟩ = some (.int .i64 pt)) ∧ (w'.cell? ⟨b, off + j * 4 + 2, none⟩ = some (.int .i64 pn) ∧ w'.cell? ⟨b, off + j * 4 + 3, none⟩ = some (.int .i64 pe))) ∧ ((w'.cell? ⟨wz, 0, none⟩ = some (.int .i64 f) ∧ w'.cell? ⟨wz, 1, none⟩ = some (.int .i64 t)) ∧ (w'.cell? ⟨wz, 2, none⟩ = some (.int .i64 n) ∧ w'.cell? ⟨wz, 3, none⟩ = some (.int .i64 e))))
                (first
                  | go_keep
                  | exact ⟨⟨⟨(HB1.out.cell (p := ⟨b, off + j * 4, none⟩) hbs).trans z1, (HB1.out.cell (p := ⟨b, off + j * 4 + 1, none⟩) hbs).trans z2⟩, ⟨(HB1.out.cell (p := ⟨b, off + j * 4 + 2, none⟩) hbs).trans z3, (HB1.out.cell (p := ⟨b, off + j * 4 + 3, none⟩) hbs).trans z4⟩⟩, ⟨⟨(HB1.out.cell (p := ⟨wz, 0, none⟩) hws).trans g1, (HB1.out.cell (p := ⟨wz, 1, none⟩) hws).trans g2⟩, ⟨(HB1.out.cell (p := ⟨wz, 2, none⟩) hws).trans g3, (HB1.out.cell (p := ⟨wz, 3, none⟩) hws).trans g4⟩⟩⟩)
                (first
                  | (go_at_call 32; refine (HCON.out _).mono ?_; rintro en w1 ⟨rfl, hb1⟩; have HB1 : Hid (Below wb.heap.size wb w1) := Lib.hid (((Below.refl _ wb).drew).trans (hb1.mono (Nat.le_refl _))); clear hb1))
              have HB9 := Lib.hid (HBA.out.trans (HB1.out.mono HBA.out.size))
              go_wp2
              go_ret
              exact ⟨rfl, HB9.out⟩
            | false =>
              have HOA : Hid (Ow.okAt l (j + 1)) := Lib.hid ⟨by rw [HY.out]; exact HOK.out, fun h => by rw [hjj, HY.out, HY2.out]; exact ⟨hp', htc⟩⟩
              go_upto_region 8 with (fail)
              have hbw : Below wr.heap.size wr (wr.alloc (.cells #[.int .i64 f, .int .i64 t, .int .i64 n, .int .i64 e] 49)) := (Below.refl _ wr).alloc (Nat.le_refl _) _
              have g1 : (wr.alloc (.cells #[.int .i64 f, .int .i64 t, .int .i64 n, .int .i64 e] 49)).cell? ⟨wr.heap.size, 0, none⟩ = some (.int .i64 f) := by rw [World.cell?_alloc_new]; rfl
              have g2 : (wr.alloc (.cells #[.int .i64 f, .int .i64 t, .int .i64 n, .int .i64 e] 49)).cell? ⟨wr.heap.size, 1, none⟩ = some (.int .i64 t) := by rw [World.cell?_alloc_new]; rfl
              have g3 : (wr.alloc (.cells #[.int .i64 f, .int .i64 t, .int .i64 n, .int .i64 e] 49)).cell? ⟨wr.heap.size, 2, none⟩ = some (.int .i64 n) := by rw [World.cell?_alloc_new]; rfl
              have g4 : (wr.alloc (.cells #[.int .i64 f, .int .i64 t, .int .i64 n, .int .i64 e] 49)).cell? ⟨wr.heap.size, 3, none⟩ = some (.int .i64 e) := by rw [World.cell?_alloc_new]; rfl
              have z1 := (hbw.cell (p := ⟨b, off + j * 4, none⟩) hb).trans d1
              have z2 := (hbw.cell (p := ⟨b, off + j * 4 + 1, none⟩) hb).trans d2
              have z3 := (hbw.cell (p := ⟨b, off + j * 4 + 2, none⟩) hb).trans d3
              have z4 := (hbw.cell (p := ⟨b, off + j * 4 + 3, none⟩) hb).trans d4
              have hbs : b < (wr.alloc (.cells #[.int .i64 f, .int .i64 t, .int .i64 n, .int .i64 e] 49)).heap.size := by simp; omega
              have hws : wr.heap.size < (wr.alloc (.cells #[.int .i64 f, .int .i64 t, .int .i64 n, .int .i64 e] 49)).heap.size := by simp
              have HBA := Lib.hid (HB.out.alloc HB.out.size (.cells #[.int .i64 f, .int .i64 t, .int .i64 n, .int .i64 e] 49))
              generalize wr.alloc (.cells #[.int .i64 f, .int .i64 t, .int .i64 n, .int .i64 e] 49) = wb at *
              generalize wr.heap.size = wz at *
              have HCON : Hid (∀ W, Calls Try.prog 32 #[.agg #[.int .i64 pf, .int .i64 pt, .int .i64 pn, .int .i64 pe], .agg #[.int .i64 f, .int .i64 t, .int .i64 n, .int .i64 e]] W fun e W' => e = .returned (.bool false) ∧ Below W.heap.size W W') := Lib.hid fun W => by
                have := continues_any ⟨pf, pt, pn, pe⟩ ⟨f, t, n, e⟩ W (by simp only; omega) (by simp only; omega)
                rwa [htc] at this
              clear hbw c1 c2 c3 c4 d1 d2 d3 d4 htc
              go_region_held3 (fun w' => ((w'.cell? ⟨b, off + j * 4, none⟩ = some (.int .i64 pf) ∧ w'.cell? ⟨b, off + j * 4 + 1, none⟩ = some (.int .i64 pt)) ∧ (w'.cell? ⟨b, off + j * 4 + 2, none⟩ = some (.int .i64 pn) ∧ w'.cell? ⟨b, off + j * 4 + 3, none⟩ = some (.int .i64 pe))) ∧ ((w'.cell? ⟨wz, 0, none⟩ = some (.int .i64 f) ∧ w'.cell? ⟨wz, 1, none⟩ = some (.int .i64 t)) ∧ (w'.cell? ⟨wz, 2, none⟩ = some (.int .i64 n) ∧ w'.cell? ⟨wz, 3, none⟩ = some (.int .i64 e))))
                (first
                  | go_keep
                  | exact ⟨⟨⟨(HB1.out.cell (p := ⟨b, off + j * 4, none⟩) hbs).trans z1, (HB1.out.cell (p := ⟨b, off + j * 4 + 1, none⟩) hbs).trans z2⟩, ⟨(HB1.out.cell (p := ⟨b, off + j * 4 + 2, none⟩) hbs).trans z3, (HB1.out.cell (p := ⟨b, off + j * 4 + 3, none⟩) hbs).trans z4⟩⟩, ⟨⟨(HB1.out.cell (p := ⟨wz, 0, none⟩) hws).trans g1, (HB1.out.cell (p := ⟨wz, 1, none⟩) hws).trans g2⟩, ⟨(HB1.out.cell (p := ⟨wz, 2, none⟩) hws).trans g3, (HB1.out.cell (p := ⟨wz, 3, none⟩) hws).trans g4⟩⟩⟩)
                (first
                  | (go_at_call 32; refine (HCON.out _).mono ?_; rintro en w1 ⟨rfl, hb1⟩; have HB1 : Hid (Below wb.heap.size wb w1) := Lib.hid (((Below.refl _ wb).drew).trans (hb1.mono (Nat.le_refl _))); clear hb1))
              have HB9 := Lib.hid (HBA.out.trans (HB1.out.mono HBA.out.size))
              go_wp2
              go_roundw
              case rel =>
                refine ⟨j + 1 + 1, by omega, by go_num, Lib.hid fun i hi => ?_, HB9⟩
                rcases Nat.lt_or_ge i (j + 1) with h | h
                · exact HO.out i h
                · obtain rfl : i = j + 1 := by omega
                  exact HOA.out
              case measure => simp [intOf]; omega
      · have HBAD : Hid (q = false) := Lib.hid (HF.out k hlt (fun h => by have := h.1; rw [HY.out] at this; exact hok this))
        obtain rfl := HBAD.out
        unfold Ow.okC at hok
        simp only at hok
        clear HF HT HO
        by_cases x0 : f < 0
        · go_wp2
          go_ret
          exact ⟨rfl, HB.out.alloc HB.out.size _⟩
        · skip
          by_cases x1 : t < f
          · go_wp2
            go_ret
            exact ⟨rfl, HB.out.alloc HB.out.size _⟩
          · skip
            by_cases x2 : 16384 ≤ t
            · go_wp2
              go_ret
              exact ⟨rfl, HB.out.alloc HB.out.size _⟩
            · skip
              by_cases x3 : n < 0
              · go_wp2
                go_ret
                exact ⟨rfl, HB.out.alloc HB.out.size _⟩
              · skip
                by_cases x4 : 8 ≤ n
                · go_wp2
                  go_ret
                  exact ⟨rfl, HB.out.alloc HB.out.size _⟩
                · skip
                  by_cases x5 : e < 1
                  · go_wp2
                    go_ret
                    exact ⟨rfl, HB.out.alloc HB.out.size _⟩
                  · skip
                    have x6 : 9007199254740992 < e := by omega
                    go_wp2
                    go_ret
                    exact ⟨rfl, HB.out.alloc HB.out.size _⟩
    · obtain rfl : q = true := HT.out (fun j hj => HO.out j (by omega))
      go_wp2
      go_ret
      exact ⟨rfl, HB.out⟩
end Go.Proofs.Ytchladbjhodkoaa
