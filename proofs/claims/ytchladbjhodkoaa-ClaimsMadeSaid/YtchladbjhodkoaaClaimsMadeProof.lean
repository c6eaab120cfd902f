/- ClaimsMade: made claims, against the reference. -/
import Derived.Test.YtchladbjhodkoaaRows
import Derived.Test.YtchladbjhodkoaaOwMasters
import Derived.Test.YtchladbjhodkoaaOwMay
import Derived.Test.YtchladbjhodkoaaOwRefJoin
import Derived.Test.YtchladbjhodkoaaOwMake
import Derived.Test.YtchladbjhodkoaaOwAwake
import Derived.Test.YtchladbjhodkoaaOwOf
import Derived.Test.YtchladbjhodkoaaMake
import Derived.Test.YtchladbjhodkoaaSpRef
import Derived.ProofKit
import Derived.OpenShut
import Derived.ShutString
import Derived.SliceStrings
import Derived.ChangeOld
namespace Go.Proofs.Ytchladbjhodkoaa.claimsMade
open Go.ChangeShapes Go.WideShapes Go.ChangeAt Go.RowKit
open Go.ChangeMaps (open_string shut_string)
set_option linter.unusedVariables false

theorem own : ownKnob Try.prog.godebug = none := by kernel_rfl
theorem laidOut : laidOutB Try.prog = true := by kernel_rfl

theorem wf_u8' {z : Int} (h : (Lit.int .u8 z).wf = true) : 0 ≤ z ∧ z ≤ 255 := by
  unfold Lit.wf at h
  simp only [Bool.and_eq_true, decide_eq_true_eq] at h
  exact h

set_option maxRecDepth 100000 in
set_option maxHeartbeats 16000000 in
theorem walk (a : Option Addr) (cap : Nat) (aS : List Int) (b : Option Addr) (capb : Nat) (bS : List Int) (c : Option Addr) (capc : Nat) (sS : List Int) (x3 x4 x5 : Int) (w : World) (hA : U16s w a cap aS) (hB : U16s w b capb bS) (hS : U16s w c capc sS) (w3 : (Lit.int .u8 x3).wf = true) (w4 : (Lit.int .u8 x4).wf = true) (w5 : (Lit.int .u16 x5).wf = true) :
    Calls Try.prog 4 #[.slice a aS.length cap, .slice b bS.length capb, .slice c sS.length capc, .int .u8 x3, .int .u8 x4, .int .u16 x5] w fun e w' => e = .returned (.bool true) ∧ Below w.heap.size w w' := by
  have l1 := hA.1
  have l2 := hA.2.1
  have l3 := hB.1
  have l4 := hB.2.1
  have l5 := hS.1
  have l6 := hS.2.1
  by_cases h1 : (60 : Int) < (aS.length : Int)
  · skip
    clear hA hB hS w3 w4 w5
    go_enter Try.func4, Try.ntmps4
    go_wp2_with (go_at_call 9; refine (awake_any _).mono ?_; rintro e w1 ⟨rfl, hb⟩; have HB := Lib.hid hb; clear hb)
    go_ret
    exact ⟨rfl, HB.out⟩
  by_cases h2 : (60 : Int) < (bS.length : Int)
  · skip
    clear hA hB hS w3 w4 w5
    go_enter Try.func4, Try.ntmps4
    go_wp2_with (go_at_call 9; refine (awake_any _).mono ?_; rintro e w1 ⟨rfl, hb⟩; have HB := Lib.hid hb; clear hb)
    go_ret
    exact ⟨rfl, HB.out⟩
  by_cases h3 : (30 : Int) < (sS.length : Int)
  · skip
    clear hA hB hS w3 w4 w5
    go_enter Try.func4, Try.ntmps4
    go_wp2_with (go_at_call 9; refine (awake_any _).mono ?_; rintro e w1 ⟨rfl, hb⟩; have HB := Lib.hid hb; clear hb)
    go_ret
    exact ⟨rfl, HB.out⟩
  have UA := Lib.hid hA
  have UB := Lib.hid hB
  have UC := Lib.hid hS
  have n1 : aS.length ≤ 1000 := by omega
  have n2 : bS.length ≤ 1000 := by omega
  have n3 : sS.length ≤ 1000 := by omega
  obtain ⟨b3, b3'⟩ := wf_u8' w3
  obtain ⟨b4, b4'⟩ := wf_u8' w4
  obtain ⟨b5, b5'⟩ := wf_u16' w5
  have e3 : IntKind.i64.wrap x3 = x3 := IntWalk.i64_in _ (by omega)
  have e4 : IntKind.i64.wrap x4 = x4 := IntWalk.i64_in _ (by omega)
  have e5 : IntKind.i64.wrap x5 = x5 := IntWalk.i64_in _ (by omega)
  have e6 : IntKind.i64.wrap (1 + x4) = 1 + x4 := IntWalk.i64_in _ (by omega)
  have hn : 0 ≤ x3 % 8 ∧ x3 % 8 < 8 ∧ (1 : Int) ≤ 1 + x4 ∧ 1 + x4 ≤ 9007199254740992 := by omega
  have hml := mkS_len sS
  have hml2 : (mkS sS).length ≤ 100000 := by omega
  have MKS := Lib.hid (fun w' h => make_any c capc sS w' n3 h)
  obtain ⟨sl, hsl⟩ : ∃ sl, mkS sS = sl := ⟨_, rfl⟩
  rw [hsl] at MKS hml2
  clear hA hB hS w3 w4 w5 hml hsl
  go_enter Try.func4, Try.ntmps4
  go_wp2_with fail
  refine (makeC_any _ _ _ _ n1 UA.out).mono ?_
  rintro en v1 ⟨a1, p1, la, rfl, va, hc, hb⟩
  have HB1 := Lib.hid hb
  have LUA_1 := Lib.hid (UA.out.later hb)
  have LUB_1 := Lib.hid (UB.out.later hb)
  have LUC_1 := Lib.hid (UC.out.later hb)
  have LA_1 := Lib.hid hc
  clear hb hc
  have VA := Lib.hid va.1
  clear va
  go_wp2_with fail
  refine (makeC_any _ _ _ _ n2 LUB_1.out).mono ?_
  rintro en v2 ⟨a2, p2, lb, rfl, vb, hc, hb⟩
  have HB2 := Lib.hid (HB1.out.trans (hb.mono HB1.out.size))
  have LUB_2 := Lib.hid (LUB_1.out.later hb)
  have LUC_2 := Lib.hid (LUC_1.out.later hb)
  have LA_2 := Lib.hid (LA_1.out.later hb)
  have LB_2 := Lib.hid hc
  clear hb hc
  have VB := Lib.hid vb.1
  clear vb
  go_wp2_with fail
  refine (MKS.out _ LUC_2.out).mono ?_
  rintro en v3 ⟨a3, p3, rfl, hs, hb⟩
  have HB3 := Lib.hid (HB2.out.trans (hb.mono HB2.out.size))
  have LUC_3 := Lib.hid (LUC_2.out.later hb)
  have LA_3 := Lib.hid (LA_2.out.later hb)
  have LB_3 := Lib.hid (LB_2.out.later hb)
  have LS_3 := Lib.hid hs
  clear hb hs
  clear MKS
  have al := VA.out.len
  have bl := VB.out.len
  have s1 := LS_3.out.1
  have q1 := LA_3.out.1
  have r1 := LA_3.out.2.1
  have q2 := LB_3.out.1
  have r2 := LB_3.out.2.1
  have HOF := Lib.hid (fun w' h => of_any a1 p1 la (x5 % 16384) w' h VA.out)
  have HRO := Lib.hid (fun w' h => refOf_any a1 p1 la (x5 % 16384) w' h)
  have HJ := Lib.hid (fun w' h1 h2 => join_any a1 a2 p1 p2 la lb w' VA.out VB.out h1 h2)
  have HRJ := Lib.hid (fun w' h1 h2 => refJoin_any a1 a2 p1 p2 la lb w' VA.out VB.out h1 h2)
  have HG := Lib.hid (fun w' h1 h2 => give_any a1 a3 p1 p3 la sl (x3 % 8) (1 + x4) w' hn VA.out hml2 h1 h2)
  have HRG := Lib.hid (fun w' h1 h2 => refGive_any a1 a3 p1 p3 la sl (x3 % 8) (1 + x4) w' hn VA.out hml2 h1 h2)
  have HWN := Lib.hid (fun w' h => owned_any a1 p1 la (x3 % 4) w' (by omega) h)
  have HRW := Lib.hid (fun w' h => refOwned_any a1 p1 la (x3 % 4) w' (by omega) h)
  have HVN : Hid (∀ c ∈ la, 0 ≤ c.n ∧ c.n < 8) := Lib.hid fun c hc => by have := VA.out.all c hc; unfold Ow.okC at this; omega
  have HMA := Lib.hid (fun w' h => masters_any a1 p1 la w' (by omega) h HVN.out)
  have HRM := Lib.hid (fun w' h => refMasters_any a1 p1 la w' (by omega) h)
  have hmlen := mastUp_len la 8
  clear hn
  cases ho : Ow.own la (x5 % 16384) with
  | none =>
    rw [ho] at HOF HRO
    simp only [Ow.zo, Ow.ro, Option.isSome] at HOF HRO
    obtain ⟨z, hz⟩ : ∃ z : Int, z = -1 := ⟨_, rfl⟩
    rw [← hz] at HRO
    have hzn : ¬ 0 ≤ z := by omega
    have hdz : decide (0 ≤ z) = false := by rw [decide_eq_false_iff_not]; exact hzn
    have hmz : max 0 z = 0 := by omega
    clear ho hz
    go_wp2_with fail
    refine (HOF.out _ LA_3.out).mono ?_
    rintro en v4 ⟨rfl, hb⟩
    have HB4 := Lib.hid (HB3.out.trans (hb.mono HB3.out.size))
    have LA_4 := Lib.hid (LA_3.out.later hb)
    have LB_4 := Lib.hid (LB_3.out.later hb)
    have LS_4 := Lib.hid (LS_3.out.later hb)
    clear hb 
    go_wp2_with fail
    refine (HRO.out _ LA_4.out).mono ?_
    rintro en v5 ⟨rfl, hb⟩
    have HB5 := Lib.hid (HB4.out.trans (hb.mono HB4.out.size))
    have LA_5 := Lib.hid (LA_4.out.later hb)
    have LB_5 := Lib.hid (LB_4.out.later hb)
    have LS_5 := Lib.hid (LS_4.out.later hb)
    clear hb 
    go_wp2_with fail
    refine (HJ.out _ LA_5.out LB_5.out).mono ?_
    rintro en v6 ⟨aj, pj, lj, rfl, ht, hc, hb⟩
    have HB6 := Lib.hid (HB5.out.trans (hb.mono HB5.out.size))
    have LA_6 := Lib.hid (LA_5.out.later hb)
    have LB_6 := Lib.hid (LB_5.out.later hb)
    have LS_6 := Lib.hid (LS_5.out.later hb)
    have LJ_6 := Lib.hid hc
    clear hb hc
    have TJ := Lib.hid ht
    clear ht
    have qj := LJ_6.out.1
    have rj := LJ_6.out.2.1
    go_wp2_with fail
    refine (HG.out _ LA_6.out LS_6.out).mono ?_
    rintro en v7 ⟨ag, pg, lg, rfl, ht, hc, hb⟩
    have HB7 := Lib.hid (HB6.out.trans (hb.mono HB6.out.size))
    have LA_7 := Lib.hid (LA_6.out.later hb)
    have LB_7 := Lib.hid (LB_6.out.later hb)
    have LS_7 := Lib.hid (LS_6.out.later hb)
    have LJ_7 := Lib.hid (LJ_6.out.later hb)
    have LG_7 := Lib.hid hc
    clear hb hc
    have TG := Lib.hid ht
    clear ht
    have qg := LG_7.out.1
    have rg := LG_7.out.2.1
    go_wp2_with fail
    refine (HRJ.out _ LA_7.out LB_7.out).mono ?_
    rintro en v8 ⟨ak, pk, lk, rfl, ht, hc, hb⟩
    have HB8 := Lib.hid (HB7.out.trans (hb.mono HB7.out.size))
    have LA_8 := Lib.hid (LA_7.out.later hb)
    have LB_8 := Lib.hid (LB_7.out.later hb)
    have LS_8 := Lib.hid (LS_7.out.later hb)
    have LJ_8 := Lib.hid (LJ_7.out.later hb)
    have LG_8 := Lib.hid (LG_7.out.later hb)
    have LK_8 := Lib.hid hc
    clear hb hc
    have hq := told_one TJ.out ht fun k _ _ => rfl
    have HSM := Lib.hid (same_any _ _ _ _ lj lk _ LJ_8.out LK_8.out)
    rw [hq] at HSM
    have qk := LK_8.out.1
    have rk := LK_8.out.2.1
    clear hq ht
    go_wp2_with fail
    refine (HSM.out).mono ?_
    rintro en v9 ⟨rfl, hb⟩
    have HB9 := Lib.hid (HB8.out.trans (hb.mono HB8.out.size))
    have LA_9 := Lib.hid (LA_8.out.later hb)
    have LB_9 := Lib.hid (LB_8.out.later hb)
    have LS_9 := Lib.hid (LS_8.out.later hb)
    have LJ_9 := Lib.hid (LJ_8.out.later hb)
    have LG_9 := Lib.hid (LG_8.out.later hb)
    have LK_9 := Lib.hid (LK_8.out.later hb)
    clear hb 
    clear HSM
    go_wp2_with fail
    refine (HRG.out _ LA_9.out LS_9.out).mono ?_
    rintro en v10 ⟨ah, ph, lh, rfl, ht, hc, hb⟩
    have HB10 := Lib.hid (HB9.out.trans (hb.mono HB9.out.size))
    have LA_10 := Lib.hid (LA_9.out.later hb)
    have LB_10 := Lib.hid (LB_9.out.later hb)
    have LS_10 := Lib.hid (LS_9.out.later hb)
    have LJ_10 := Lib.hid (LJ_9.out.later hb)
    have LG_10 := Lib.hid (LG_9.out.later hb)
    have LH_10 := Lib.hid hc
    clear hb hc
    have hq := told_one TG.out ht fun k _ _ => rfl
    have HSM := Lib.hid (same_any _ _ _ _ lg lh _ LG_10.out LH_10.out)
    rw [hq] at HSM
    have qh := LH_10.out.1
    have rh := LH_10.out.2.1
    clear hq ht
    go_wp2_with fail
    refine (HSM.out).mono ?_
    rintro en v11 ⟨rfl, hb⟩
    have HB11 := Lib.hid (HB10.out.trans (hb.mono HB10.out.size))
    have LA_11 := Lib.hid (LA_10.out.later hb)
    have LB_11 := Lib.hid (LB_10.out.later hb)
    have LS_11 := Lib.hid (LS_10.out.later hb)
    have LJ_11 := Lib.hid (LJ_10.out.later hb)
    have LG_11 := Lib.hid (LG_10.out.later hb)
    have LH_11 := Lib.hid (LH_10.out.later hb)
    clear hb 
    clear HSM
    have HMY := Lib.hid (may_any _ _ la _ LA_11.out)
    rw [Ow.mayB_iff.2 VA.out] at HMY
    go_wp2_with fail
    refine (HMY.out).mono ?_
    rintro en v12 ⟨rfl, hb⟩
    have HB12 := Lib.hid (HB11.out.trans (hb.mono HB11.out.size))
    have LA_12 := Lib.hid (LA_11.out.later hb)
    have LB_12 := Lib.hid (LB_11.out.later hb)
    have LS_12 := Lib.hid (LS_11.out.later hb)
    have LJ_12 := Lib.hid (LJ_11.out.later hb)
    have LG_12 := Lib.hid (LG_11.out.later hb)
    clear hb 
    clear HMY
    have HMY := Lib.hid (may_any _ _ lj _ LJ_12.out)
    rw [Ow.mayB_iff.2 TJ.out.1] at HMY
    go_wp2_with fail
    refine (HMY.out).mono ?_
    rintro en v13 ⟨rfl, hb⟩
    have HB13 := Lib.hid (HB12.out.trans (hb.mono HB12.out.size))
    have LA_13 := Lib.hid (LA_12.out.later hb)
    have LB_13 := Lib.hid (LB_12.out.later hb)
    have LS_13 := Lib.hid (LS_12.out.later hb)
    have LJ_13 := Lib.hid (LJ_12.out.later hb)
    have LG_13 := Lib.hid (LG_12.out.later hb)
    clear hb 
    clear HMY
    have HMY := Lib.hid (may_any _ _ lg _ LG_13.out)
    rw [Ow.mayB_iff.2 TG.out.1] at HMY
    go_wp2_with fail
    refine (HMY.out).mono ?_
    rintro en v14 ⟨rfl, hb⟩
    have HB14 := Lib.hid (HB13.out.trans (hb.mono HB13.out.size))
    have LA_14 := Lib.hid (LA_13.out.later hb)
    have LB_14 := Lib.hid (LB_13.out.later hb)
    have LS_14 := Lib.hid (LS_13.out.later hb)
    have LJ_14 := Lib.hid (LJ_13.out.later hb)
    have LG_14 := Lib.hid (LG_13.out.later hb)
    clear hb 
    clear HMY
    go_wp2_with fail
    refine (HWN.out _ LA_14.out).mono ?_
    rintro en v15 ⟨aw, pw, rfl, hs, hb⟩
    have HB15 := Lib.hid (HB14.out.trans (hb.mono HB14.out.size))
    have LA_15 := Lib.hid (LA_14.out.later hb)
    have LB_15 := Lib.hid (LB_14.out.later hb)
    have LS_15 := Lib.hid (LS_14.out.later hb)
    have LJ_15 := Lib.hid (LJ_14.out.later hb)
    have LG_15 := Lib.hid (LG_14.out.later hb)
    have LW_15 := Lib.hid hs
    clear hb hs
    go_wp2_with fail
    refine (HRW.out _ LA_15.out).mono ?_
    rintro en v16 ⟨ax, px, rfl, hs, hb⟩
    have HB16 := Lib.hid (HB15.out.trans (hb.mono HB15.out.size))
    have LA_16 := Lib.hid (LA_15.out.later hb)
    have LB_16 := Lib.hid (LB_15.out.later hb)
    have LS_16 := Lib.hid (LS_15.out.later hb)
    have LJ_16 := Lib.hid (LJ_15.out.later hb)
    have LG_16 := Lib.hid (LG_15.out.later hb)
    have LW_16 := Lib.hid (LW_15.out.later hb)
    have LX_16 := Lib.hid hs
    clear hb hs
    have HSS := Lib.hid (refSame_any _ _ _ _ _ _ _ LW_16.out LX_16.out)
    rw [decide_eq_true rfl] at HSS
    go_wp2_with fail
    refine (HSS.out).mono ?_
    rintro en v17 ⟨rfl, hb⟩
    have HB17 := Lib.hid (HB16.out.trans (hb.mono HB16.out.size))
    have LA_17 := Lib.hid (LA_16.out.later hb)
    have LB_17 := Lib.hid (LB_16.out.later hb)
    have LS_17 := Lib.hid (LS_16.out.later hb)
    have LJ_17 := Lib.hid (LJ_16.out.later hb)
    have LG_17 := Lib.hid (LG_16.out.later hb)
    have LW_17 := Lib.hid (LW_16.out.later hb)
    have LX_17 := Lib.hid (LX_16.out.later hb)
    clear hb 
    clear HSS
    go_wp2_with fail
    refine (HMA.out _ LA_17.out).mono ?_
    rintro en v18 ⟨am, pm, rfl, hi, hb⟩
    have HB18 := Lib.hid (HB17.out.trans (hb.mono HB17.out.size))
    have LA_18 := Lib.hid (LA_17.out.later hb)
    have LB_18 := Lib.hid (LB_17.out.later hb)
    have LS_18 := Lib.hid (LS_17.out.later hb)
    have LJ_18 := Lib.hid (LJ_17.out.later hb)
    have LG_18 := Lib.hid (LG_17.out.later hb)
    have LM_18 := Lib.hid hi
    clear hb hi
    go_wp2_with fail
    refine (HRM.out _ LA_18.out).mono ?_
    rintro en v19 ⟨an, pn, rfl, hi, hb⟩
    have HB19 := Lib.hid (HB18.out.trans (hb.mono HB18.out.size))
    have LA_19 := Lib.hid (LA_18.out.later hb)
    have LB_19 := Lib.hid (LB_18.out.later hb)
    have LS_19 := Lib.hid (LS_18.out.later hb)
    have LJ_19 := Lib.hid (LJ_18.out.later hb)
    have LG_19 := Lib.hid (LG_18.out.later hb)
    have LM_19 := Lib.hid (LM_18.out.later hb)
    have LN_19 := Lib.hid hi
    clear hb hi
    have HIN := Lib.hid (refInts_same _ _ _ _ (mastS la) _ (Nat.le_trans (mastUp_len la 8) (by decide)) LM_19.out LN_19.out)
    go_wp2_with fail
    refine (HIN.out).mono ?_
    rintro en v20 ⟨rfl, hb⟩
    have HB20 := Lib.hid (HB19.out.trans (hb.mono HB19.out.size))
    have LA_20 := Lib.hid (LA_19.out.later hb)
    have LB_20 := Lib.hid (LB_19.out.later hb)
    have LS_20 := Lib.hid (LS_19.out.later hb)
    have LJ_20 := Lib.hid (LJ_19.out.later hb)
    have LG_20 := Lib.hid (LG_19.out.later hb)
    have LM_20 := Lib.hid (LM_19.out.later hb)
    have LN_20 := Lib.hid (LN_19.out.later hb)
    clear hb 
    clear HIN
    go_wp2_with fail
    refine (awake_any _).mono ?_
    rintro en v21 ⟨rfl, hb⟩
    have HB21 := Lib.hid (HB20.out.trans (hb.mono HB20.out.size))
    have LA_21 := Lib.hid (LA_20.out.later hb)
    have LB_21 := Lib.hid (LB_20.out.later hb)
    have LS_21 := Lib.hid (LS_20.out.later hb)
    have LJ_21 := Lib.hid (LJ_20.out.later hb)
    have LG_21 := Lib.hid (LG_20.out.later hb)
    have LM_21 := Lib.hid (LM_20.out.later hb)
    have LN_21 := Lib.hid (LN_20.out.later hb)
    clear hb 
    go_wp2
    go_ret
    exact ⟨rfl, HB21.out⟩
  | some o =>
    obtain ⟨on, oe⟩ := o
    have hog := Ow.own_range VA.out ho
    have hon : 0 ≤ on := by
      obtain ⟨c, hc, hi, he⟩ := Ow.own_some ho
      have := HVN.out c hc
      simp only [Prod.mk.injEq] at he
      omega
    rw [ho] at HOF HRO
    simp only [Ow.zo, Ow.ro, Option.isSome] at HOF HRO
    have hdn : decide (0 ≤ on) = true := by rw [decide_eq_true_eq]; exact hon
    have hmx : max 0 on = on := by omega
    clear ho hog
    go_wp2_with fail
    refine (HOF.out _ LA_3.out).mono ?_
    rintro en v4 ⟨rfl, hb⟩
    have HB4 := Lib.hid (HB3.out.trans (hb.mono HB3.out.size))
    have LA_4 := Lib.hid (LA_3.out.later hb)
    have LB_4 := Lib.hid (LB_3.out.later hb)
    have LS_4 := Lib.hid (LS_3.out.later hb)
    clear hb 
    go_wp2_with fail
    refine (HRO.out _ LA_4.out).mono ?_
    rintro en v5 ⟨rfl, hb⟩
    have HB5 := Lib.hid (HB4.out.trans (hb.mono HB4.out.size))
    have LA_5 := Lib.hid (LA_4.out.later hb)
    have LB_5 := Lib.hid (LB_4.out.later hb)
    have LS_5 := Lib.hid (LS_4.out.later hb)
    clear hb 
    go_wp2_with fail
    refine (HJ.out _ LA_5.out LB_5.out).mono ?_
    rintro en v6 ⟨aj, pj, lj, rfl, ht, hc, hb⟩
    have HB6 := Lib.hid (HB5.out.trans (hb.mono HB5.out.size))
    have LA_6 := Lib.hid (LA_5.out.later hb)
    have LB_6 := Lib.hid (LB_5.out.later hb)
    have LS_6 := Lib.hid (LS_5.out.later hb)
    have LJ_6 := Lib.hid hc
    clear hb hc
    have TJ := Lib.hid ht
    clear ht
    have qj := LJ_6.out.1
    have rj := LJ_6.out.2.1
    go_wp2_with fail
    refine (HG.out _ LA_6.out LS_6.out).mono ?_
    rintro en v7 ⟨ag, pg, lg, rfl, ht, hc, hb⟩
    have HB7 := Lib.hid (HB6.out.trans (hb.mono HB6.out.size))
    have LA_7 := Lib.hid (LA_6.out.later hb)
    have LB_7 := Lib.hid (LB_6.out.later hb)
    have LS_7 := Lib.hid (LS_6.out.later hb)
    have LJ_7 := Lib.hid (LJ_6.out.later hb)
    have LG_7 := Lib.hid hc
    clear hb hc
    have TG := Lib.hid ht
    clear ht
    have qg := LG_7.out.1
    have rg := LG_7.out.2.1
    go_wp2_with fail
    refine (HRJ.out _ LA_7.out LB_7.out).mono ?_
    rintro en v8 ⟨ak, pk, lk, rfl, ht, hc, hb⟩
    have HB8 := Lib.hid (HB7.out.trans (hb.mono HB7.out.size))
    have LA_8 := Lib.hid (LA_7.out.later hb)
    have LB_8 := Lib.hid (LB_7.out.later hb)
    have LS_8 := Lib.hid (LS_7.out.later hb)
    have LJ_8 := Lib.hid (LJ_7.out.later hb)
    have LG_8 := Lib.hid (LG_7.out.later hb)
    have LK_8 := Lib.hid hc
    clear hb hc
    have hq := told_one TJ.out ht fun k _ _ => rfl
    have HSM := Lib.hid (same_any _ _ _ _ lj lk _ LJ_8.out LK_8.out)
    rw [hq] at HSM
    have qk := LK_8.out.1
    have rk := LK_8.out.2.1
    clear hq ht
    go_wp2_with fail
    refine (HSM.out).mono ?_
    rintro en v9 ⟨rfl, hb⟩
    have HB9 := Lib.hid (HB8.out.trans (hb.mono HB8.out.size))
    have LA_9 := Lib.hid (LA_8.out.later hb)
    have LB_9 := Lib.hid (LB_8.out.later hb)
    have LS_9 := Lib.hid (LS_8.out.later hb)
    have LJ_9 := Lib.hid (LJ_8.out.later hb)
    have LG_9 := Lib.hid (LG_8.out.later hb)
    have LK_9 := Lib.hid (LK_8.out.later hb)
    clear hb 
    clear HSM
    go_wp2_with fail
    refine (HRG.out _ LA_9.out LS_9.out).mono ?_
    rintro en v10 ⟨ah, ph, lh, rfl, ht, hc, hb⟩
    have HB10 := Lib.hid (HB9.out.trans (hb.mono HB9.out.size))
    have LA_10 := Lib.hid (LA_9.out.later hb)
    have LB_10 := Lib.hid (LB_9.out.later hb)
    have LS_10 := Lib.hid (LS_9.out.later hb)
    have LJ_10 := Lib.hid (LJ_9.out.later hb)
    have LG_10 := Lib.hid (LG_9.out.later hb)
    have LH_10 := Lib.hid hc
    clear hb hc
    have hq := told_one TG.out ht fun k _ _ => rfl
    have HSM := Lib.hid (same_any _ _ _ _ lg lh _ LG_10.out LH_10.out)
    rw [hq] at HSM
    have qh := LH_10.out.1
    have rh := LH_10.out.2.1
    clear hq ht
    go_wp2_with fail
    refine (HSM.out).mono ?_
    rintro en v11 ⟨rfl, hb⟩
    have HB11 := Lib.hid (HB10.out.trans (hb.mono HB10.out.size))
    have LA_11 := Lib.hid (LA_10.out.later hb)
    have LB_11 := Lib.hid (LB_10.out.later hb)
    have LS_11 := Lib.hid (LS_10.out.later hb)
    have LJ_11 := Lib.hid (LJ_10.out.later hb)
    have LG_11 := Lib.hid (LG_10.out.later hb)
    have LH_11 := Lib.hid (LH_10.out.later hb)
    clear hb 
    clear HSM
    have HMY := Lib.hid (may_any _ _ la _ LA_11.out)
    rw [Ow.mayB_iff.2 VA.out] at HMY
    go_wp2_with fail
    refine (HMY.out).mono ?_
    rintro en v12 ⟨rfl, hb⟩
    have HB12 := Lib.hid (HB11.out.trans (hb.mono HB11.out.size))
    have LA_12 := Lib.hid (LA_11.out.later hb)
    have LB_12 := Lib.hid (LB_11.out.later hb)
    have LS_12 := Lib.hid (LS_11.out.later hb)
    have LJ_12 := Lib.hid (LJ_11.out.later hb)
    have LG_12 := Lib.hid (LG_11.out.later hb)
    clear hb 
    clear HMY
    have HMY := Lib.hid (may_any _ _ lj _ LJ_12.out)
    rw [Ow.mayB_iff.2 TJ.out.1] at HMY
    go_wp2_with fail
    refine (HMY.out).mono ?_
    rintro en v13 ⟨rfl, hb⟩
    have HB13 := Lib.hid (HB12.out.trans (hb.mono HB12.out.size))
    have LA_13 := Lib.hid (LA_12.out.later hb)
    have LB_13 := Lib.hid (LB_12.out.later hb)
    have LS_13 := Lib.hid (LS_12.out.later hb)
    have LJ_13 := Lib.hid (LJ_12.out.later hb)
    have LG_13 := Lib.hid (LG_12.out.later hb)
    clear hb 
    clear HMY
    have HMY := Lib.hid (may_any _ _ lg _ LG_13.out)
    rw [Ow.mayB_iff.2 TG.out.1] at HMY
    go_wp2_with fail
    refine (HMY.out).mono ?_
    rintro en v14 ⟨rfl, hb⟩
    have HB14 := Lib.hid (HB13.out.trans (hb.mono HB13.out.size))
    have LA_14 := Lib.hid (LA_13.out.later hb)
    have LB_14 := Lib.hid (LB_13.out.later hb)
    have LS_14 := Lib.hid (LS_13.out.later hb)
    have LJ_14 := Lib.hid (LJ_13.out.later hb)
    have LG_14 := Lib.hid (LG_13.out.later hb)
    clear hb 
    clear HMY
    go_wp2_with fail
    refine (HWN.out _ LA_14.out).mono ?_
    rintro en v15 ⟨aw, pw, rfl, hs, hb⟩
    have HB15 := Lib.hid (HB14.out.trans (hb.mono HB14.out.size))
    have LA_15 := Lib.hid (LA_14.out.later hb)
    have LB_15 := Lib.hid (LB_14.out.later hb)
    have LS_15 := Lib.hid (LS_14.out.later hb)
    have LJ_15 := Lib.hid (LJ_14.out.later hb)
    have LG_15 := Lib.hid (LG_14.out.later hb)
    have LW_15 := Lib.hid hs
    clear hb hs
    go_wp2_with fail
    refine (HRW.out _ LA_15.out).mono ?_
    rintro en v16 ⟨ax, px, rfl, hs, hb⟩
    have HB16 := Lib.hid (HB15.out.trans (hb.mono HB15.out.size))
    have LA_16 := Lib.hid (LA_15.out.later hb)
    have LB_16 := Lib.hid (LB_15.out.later hb)
    have LS_16 := Lib.hid (LS_15.out.later hb)
    have LJ_16 := Lib.hid (LJ_15.out.later hb)
    have LG_16 := Lib.hid (LG_15.out.later hb)
    have LW_16 := Lib.hid (LW_15.out.later hb)
    have LX_16 := Lib.hid hs
    clear hb hs
    have HSS := Lib.hid (refSame_any _ _ _ _ _ _ _ LW_16.out LX_16.out)
    rw [decide_eq_true rfl] at HSS
    go_wp2_with fail
    refine (HSS.out).mono ?_
    rintro en v17 ⟨rfl, hb⟩
    have HB17 := Lib.hid (HB16.out.trans (hb.mono HB16.out.size))
    have LA_17 := Lib.hid (LA_16.out.later hb)
    have LB_17 := Lib.hid (LB_16.out.later hb)
    have LS_17 := Lib.hid (LS_16.out.later hb)
    have LJ_17 := Lib.hid (LJ_16.out.later hb)
    have LG_17 := Lib.hid (LG_16.out.later hb)
    have LW_17 := Lib.hid (LW_16.out.later hb)
    have LX_17 := Lib.hid (LX_16.out.later hb)
    clear hb 
    clear HSS
    go_wp2_with fail
    refine (HMA.out _ LA_17.out).mono ?_
    rintro en v18 ⟨am, pm, rfl, hi, hb⟩
    have HB18 := Lib.hid (HB17.out.trans (hb.mono HB17.out.size))
    have LA_18 := Lib.hid (LA_17.out.later hb)
    have LB_18 := Lib.hid (LB_17.out.later hb)
    have LS_18 := Lib.hid (LS_17.out.later hb)
    have LJ_18 := Lib.hid (LJ_17.out.later hb)
    have LG_18 := Lib.hid (LG_17.out.later hb)
    have LM_18 := Lib.hid hi
    clear hb hi
    go_wp2_with fail
    refine (HRM.out _ LA_18.out).mono ?_
    rintro en v19 ⟨an, pn, rfl, hi, hb⟩
    have HB19 := Lib.hid (HB18.out.trans (hb.mono HB18.out.size))
    have LA_19 := Lib.hid (LA_18.out.later hb)
    have LB_19 := Lib.hid (LB_18.out.later hb)
    have LS_19 := Lib.hid (LS_18.out.later hb)
    have LJ_19 := Lib.hid (LJ_18.out.later hb)
    have LG_19 := Lib.hid (LG_18.out.later hb)
    have LM_19 := Lib.hid (LM_18.out.later hb)
    have LN_19 := Lib.hid hi
    clear hb hi
    have HIN := Lib.hid (refInts_same _ _ _ _ (mastS la) _ (Nat.le_trans (mastUp_len la 8) (by decide)) LM_19.out LN_19.out)
    go_wp2_with fail
    refine (HIN.out).mono ?_
    rintro en v20 ⟨rfl, hb⟩
    have HB20 := Lib.hid (HB19.out.trans (hb.mono HB19.out.size))
    have LA_20 := Lib.hid (LA_19.out.later hb)
    have LB_20 := Lib.hid (LB_19.out.later hb)
    have LS_20 := Lib.hid (LS_19.out.later hb)
    have LJ_20 := Lib.hid (LJ_19.out.later hb)
    have LG_20 := Lib.hid (LG_19.out.later hb)
    have LM_20 := Lib.hid (LM_19.out.later hb)
    have LN_20 := Lib.hid (LN_19.out.later hb)
    clear hb 
    clear HIN
    go_wp2_with fail
    refine (awake_any _).mono ?_
    rintro en v21 ⟨rfl, hb⟩
    have HB21 := Lib.hid (HB20.out.trans (hb.mono HB20.out.size))
    have LA_21 := Lib.hid (LA_20.out.later hb)
    have LB_21 := Lib.hid (LB_20.out.later hb)
    have LS_21 := Lib.hid (LS_20.out.later hb)
    have LJ_21 := Lib.hid (LJ_20.out.later hb)
    have LG_21 := Lib.hid (LG_20.out.later hb)
    have LM_21 := Lib.hid (LM_20.out.later hb)
    have LN_21 := Lib.hid (LN_20.out.later hb)
    clear hb 
    go_wp2
    go_ret
    exact ⟨rfl, HB21.out⟩

set_option maxRecDepth 100000 in
theorem lifted (os : Os) (started : os.Started) (H : Type) (enc : TypeId × Value → H) :
    ReturnsInHanded {} Try.checked os 4 .any (Rows.claimsMadeSpec.pre6 enc Try.prog Try.f4 Rows.claimsMadeRow.domain false) (Rows.claimsMadeSpec.post enc Try.prog Try.f4 false true false false) := by
  refine returnsInHanded_of_change (C := Try.checked) own started (by kernel_rfl) Try.func4
    (ChangeSpec.witness6 (enc := enc) (C := Try.checked) false ⟨#[], #[.slice none 0 0, .slice none 0 0, .slice none 0 0, .int .u8 0, .int .u8 0, .int .u16 0], []⟩ 8 (by kernel_rfl) (by kernel_rfl) (by kernel_rfl) (by kernel_rfl)) ?_
  intro W base args ds gs before hval0 hW hcnd _
  have hval : ∀ (j : Nat) t v, Try.f4.params[j]? = some t → args[j]? = some v → Value.okWide Try.prog W .any base t v := hval0
  have hW' := hW
  obtain ⟨p, q, hA0, hV, rfl, hfz, hnd⟩ := hW
  have hA : DataW.TrodAll enc Try.prog W 0 (fun _ => true) true Try.f4.params.toList args.toList ds p := hA0
  rw [Try.params4] at hA hval
  obtain ⟨v0, vs0, d0, ds0, p0, q0, hargs, rfl, rfl, h0, r0⟩ := trodAll_cons hA
  obtain ⟨v1, vs1, d1, ds1, p1, q1, rfl, rfl, rfl, h1, r1⟩ := trodAll_cons r0
  obtain ⟨v2, vs2, d2, ds2, p2, q2, rfl, rfl, rfl, h2, r2⟩ := trodAll_cons r1
  obtain ⟨v3, vs3, d3, ds3, p3, q3, rfl, rfl, rfl, h3, r3⟩ := trodAll_cons r2
  obtain ⟨v4, vs4, d4, ds4, p4, q4, rfl, rfl, rfl, h4, r4⟩ := trodAll_cons r3
  obtain ⟨v5, vs5, d5, ds5, p5, q5, rfl, rfl, rfl, h5, r5⟩ := trodAll_cons r4
  obtain ⟨rfl, rfl, rfl⟩ := trodAll_nil r5
  obtain rfl : args = #[v0, v1, v2, v3, v4, v5] := by cases args; simp_all
  obtain ⟨rfl, rfl⟩ := trodVars_none hV
  obtain ⟨a0, len0, cap0, rfl⟩ := okWide_slice Try.underlying39 (hval 0 39 v0 rfl rfl)
  have k0 := h0
  have lt0 : ∀ x ∈ p0, x.block < W.heap.size := by obtain ⟨m, hm⟩ := k0; exact DataW.trod_lt m _ _ _ hm
  obtain ⟨z0, rfl, w0⟩ : ∃ l : List Int, len0 = l.length ∧ U16s W a0 cap0 l := by
    obtain ⟨fuel, hf⟩ := h0
    exact open_u16s hf
  obtain ⟨a1, len1, cap1, rfl⟩ := okWide_slice Try.underlying39 (hval 1 39 v1 rfl rfl)
  have k1 := h1
  have lt1 : ∀ x ∈ p1, x.block < W.heap.size := by obtain ⟨m, hm⟩ := k1; exact DataW.trod_lt m _ _ _ hm
  obtain ⟨z1, rfl, w1⟩ : ∃ l : List Int, len1 = l.length ∧ U16s W a1 cap1 l := by
    obtain ⟨fuel, hf⟩ := h1
    exact open_u16s hf
  obtain ⟨a2, len2, cap2, rfl⟩ := okWide_slice Try.underlying39 (hval 2 39 v2 rfl rfl)
  have k2 := h2
  have lt2 : ∀ x ∈ p2, x.block < W.heap.size := by obtain ⟨m, hm⟩ := k2; exact DataW.trod_lt m _ _ _ hm
  obtain ⟨z2, rfl, w2⟩ : ∃ l : List Int, len2 = l.length ∧ U16s W a2 cap2 l := by
    obtain ⟨fuel, hf⟩ := h2
    exact open_u16s hf
  obtain ⟨a3, rfl, rfl, rfl, w3⟩ := open_int Try.underlying5 (hval 3 5 v3 rfl rfl) h3
  obtain ⟨a4, rfl, rfl, rfl, w4⟩ := open_int Try.underlying5 (hval 4 5 v4 rfl rfl) h4
  obtain ⟨a5, rfl, rfl, rfl, w5⟩ := open_int Try.underlying40 (hval 5 40 v5 rfl rfl) h5
  clear hA0 hval0
  refine (walk a0 cap0 z0 a1 cap1 z1 a2 cap2 z2 a3 a4 a5 W w0 w1 w2 w3 w4 w5).mono fun e W' ⟨he, bel⟩ => ?_
  subst he
  exact ⟨_, rfl, _, _, _, [], _, [], hW', trodAll_mk1 (shut_bool Try.underlying4 _), (trodAll_cons_mk (Below.trod laidOut (by kernel_rfl) (of_decide_eq_true (by kernel_rfl)) k0 bel lt0) (trodAll_cons_mk (Below.trod laidOut (by kernel_rfl) (of_decide_eq_true (by kernel_rfl)) k1 bel lt1) (trodAll_cons_mk (Below.trod laidOut (by kernel_rfl) (of_decide_eq_true (by kernel_rfl)) k2 bel lt2) (trodAll_cons_mk (shut_int Try.underlying5 w3) (trodAll_cons_mk (shut_int Try.underlying5 w4) (trodAll_cons_mk (shut_int Try.underlying40 w5) trodAll_mk0)))))), rfl, bel.frame _, fun h => by cases h⟩

theorem over : Rows.claimsMadeRow.holds Try.pinned (OpenSpec.ofChange Rows.claimsMadeSpec) :=
  OpenClaim.holds_of_wide 4 Try.f4 rfl rfl rfl rfl rfl rfl rfl ⟨rfl, rfl, rfl, rfl, rfl⟩ rfl rfl rfl rfl rfl (by kernel_rfl) Try.func4 (by kernel_rfl)
    (of_decide_eq_true (by kernel_rfl)) (by unfold Func.isWrapper; first | (rw [if_pos (by decide +kernel)]; kernel_rfl) | (rw [if_neg (by decide +kernel)]; exact ⟨rfl, rfl⟩))
    (fun os started H enc _ => lifted os started H enc)

theorem proved : Rows.ClaimsMadeSaid := over
#print axioms proved
end Go.Proofs.Ytchladbjhodkoaa.claimsMade
