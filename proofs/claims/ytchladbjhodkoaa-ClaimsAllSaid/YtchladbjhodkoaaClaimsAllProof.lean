/- ClaimsAll: any claims, against the reference. -/
import Derived.Test.YtchladbjhodkoaaRows
import Derived.Test.YtchladbjhodkoaaOwOpen
import Derived.Test.YtchladbjhodkoaaOwMasters
import Derived.Test.YtchladbjhodkoaaOwMay
import Derived.Test.YtchladbjhodkoaaOwRefMay
import Derived.Test.YtchladbjhodkoaaOwRefJoin
import Derived.Test.YtchladbjhodkoaaOwMake
import Derived.Test.YtchladbjhodkoaaOwAwake
import Derived.Test.YtchladbjhodkoaaOwOf
import Derived.Test.YtchladbjhodkoaaMake
import Derived.Test.YtchladbjhodkoaaSpRef
import Derived.ProofKit
import Derived.OpenShut
import Derived.ShutString
import Derived.SliceStrings
import Derived.ChangeOld
namespace Go.Proofs.Ytchladbjhodkoaa.claimsAll
open Go.ChangeShapes Go.WideShapes Go.ChangeAt Go.RowKit
open Go.ChangeMaps (open_string shut_string)
set_option linter.unusedVariables false

theorem own : ownKnob Try.prog.godebug = none := by kernel_rfl
theorem laidOut : laidOutB Try.prog = true := by kernel_rfl

theorem wf_i64 {z : Int} (h : (Lit.int .i64 z).wf = true) : -9223372036854775808 ≤ z ∧ z ≤ 9223372036854775807 := by
  unfold Lit.wf at h
  simp only [Bool.and_eq_true, decide_eq_true_eq] at h
  exact h

set_option maxRecDepth 100000 in
set_option maxHeartbeats 16000000 in
theorem walk (a : Option Addr) (cap : Nat) (la : List Ow.C) (b : Option Addr) (capb : Nat) (lb : List Ow.C) (c : Option Addr) (capc : Nat) (sl : List Sp.S) (x3 x4 x5 : Int) (w : World) (hA : Cls w a cap la) (hB : Cls w b capb lb) (hS : Spans w c capc sl) (w3 : (Lit.int .i64 x3).wf = true) (w4 : (Lit.int .i64 x4).wf = true) (w5 : (Lit.int .i64 x5).wf = true) :
    Calls Try.prog 3 #[.slice a la.length cap, .slice b lb.length capb, .slice c sl.length capc, .int .i64 x3, .int .i64 x4, .int .i64 x5] w fun e w' => e = .returned (.bool true) ∧ Below w.heap.size w w' := by
  have l1 := hA.1
  have l2 := hA.2.1
  have l3 := hB.1
  have l4 := hB.2.1
  have l5 := hS.1
  have l6 := hS.2.1
  by_cases h1 : (40 : Int) < (la.length : Int)
  · skip
    clear hA hB hS w3 w4 w5
    go_enter Try.func3, Try.ntmps3
    go_wp2_with (go_at_call 9; refine (awake_any _).mono ?_; rintro e w1 ⟨rfl, hb⟩; have HB := Lib.hid hb; clear hb)
    go_ret
    exact ⟨rfl, HB.out⟩
  by_cases h2 : (40 : Int) < (lb.length : Int)
  · skip
    clear hA hB hS w3 w4 w5
    go_enter Try.func3, Try.ntmps3
    go_wp2_with (go_at_call 9; refine (awake_any _).mono ?_; rintro e w1 ⟨rfl, hb⟩; have HB := Lib.hid hb; clear hb)
    go_ret
    exact ⟨rfl, HB.out⟩
  by_cases h3 : (40 : Int) < (sl.length : Int)
  · skip
    clear hA hB hS w3 w4 w5
    go_enter Try.func3, Try.ntmps3
    go_wp2_with (go_at_call 9; refine (awake_any _).mono ?_; rintro e w1 ⟨rfl, hb⟩; have HB := Lib.hid hb; clear hb)
    go_ret
    exact ⟨rfl, HB.out⟩
  have LA := Lib.hid hA
  have LB := Lib.hid hB
  have LS := Lib.hid hS
  have h3' : sl.length ≤ 100000 := by omega
  obtain ⟨b3, b3'⟩ := wf_i64 w3
  obtain ⟨b4, b4'⟩ := wf_i64 w4
  obtain ⟨b5, b5'⟩ := wf_i64 w5
  have HMA := Lib.hid (fun w' h => may_any a cap la w' h)
  have HMB := Lib.hid (fun w' h => may_any b capb lb w' h)
  have HRA := Lib.hid (fun w' h => refMayC_any a cap la w' h)
  have HRB := Lib.hid (fun w' h => refMayC_any b capb lb w' h)
  clear hA hB hS w3 w4 w5
  by_cases ha : Ow.mayB la = true
  case neg =>
    have ha' : Ow.mayB la = false := by simpa using ha
    rw [ha'] at HMA HRA
    obtain ⟨q, hq⟩ : ∃ q, Ow.mayB lb = q := ⟨_, rfl⟩
    rw [hq] at HMB HRB
    have hqq : (q != q) = false := by simp
    clear hq ha ha'
    go_enter Try.func3, Try.ntmps3
    go_wp2_with fail
    refine (HMA.out _ LA.out).mono ?_
    rintro en v1 ⟨rfl, hb⟩
    have HB1 := Lib.hid hb
    have LA_1 := Lib.hid (LA.out.later hb)
    have LB_1 := Lib.hid (LB.out.later hb)
    have LS_1 := Lib.hid (LS.out.later hb)
    clear hb 
    go_wp2_with fail
    refine (HRA.out _ LA_1.out).mono ?_
    rintro en v2 ⟨rfl, hb⟩
    have HB2 := Lib.hid (HB1.out.trans (hb.mono HB1.out.size))
    have LA_2 := Lib.hid (LA_1.out.later hb)
    have LB_2 := Lib.hid (LB_1.out.later hb)
    have LS_2 := Lib.hid (LS_1.out.later hb)
    clear hb 
    go_wp2_with fail
    refine (HMB.out _ LB_2.out).mono ?_
    rintro en v3 ⟨rfl, hb⟩
    have HB3 := Lib.hid (HB2.out.trans (hb.mono HB2.out.size))
    have LA_3 := Lib.hid (LA_2.out.later hb)
    have LB_3 := Lib.hid (LB_2.out.later hb)
    have LS_3 := Lib.hid (LS_2.out.later hb)
    clear hb 
    go_wp2_with fail
    refine (HRB.out _ LB_3.out).mono ?_
    rintro en v4 ⟨rfl, hb⟩
    have HB4 := Lib.hid (HB3.out.trans (hb.mono HB3.out.size))
    have LA_4 := Lib.hid (LA_3.out.later hb)
    have LB_4 := Lib.hid (LB_3.out.later hb)
    have LS_4 := Lib.hid (LS_3.out.later hb)
    clear hb 
    go_wp2_with fail
    refine (HRA.out _ LA_4.out).mono ?_
    rintro en v5 ⟨rfl, hb⟩
    have HB5 := Lib.hid (HB4.out.trans (hb.mono HB4.out.size))
    have LA_5 := Lib.hid (LA_4.out.later hb)
    have LB_5 := Lib.hid (LB_4.out.later hb)
    have LS_5 := Lib.hid (LS_4.out.later hb)
    clear hb 
    go_wp2_with fail
    refine (awake_any _).mono ?_
    rintro en v6 ⟨rfl, hb⟩
    have HB6 := Lib.hid (HB5.out.trans (hb.mono HB5.out.size))
    have LA_6 := Lib.hid (LA_5.out.later hb)
    have LB_6 := Lib.hid (LB_5.out.later hb)
    have LS_6 := Lib.hid (LS_5.out.later hb)
    clear hb 
    go_wp2
    go_ret
    exact ⟨rfl, HB6.out⟩
  by_cases hb : Ow.mayB lb = true
  case neg =>
    have hb' : Ow.mayB lb = false := by simpa using hb
    rw [ha] at HMA HRA
    rw [hb'] at HMB HRB
    clear ha hb hb'
    go_enter Try.func3, Try.ntmps3
    go_wp2_with fail
    refine (HMA.out _ LA.out).mono ?_
    rintro en v1 ⟨rfl, hb⟩
    have HB1 := Lib.hid hb
    have LA_1 := Lib.hid (LA.out.later hb)
    have LB_1 := Lib.hid (LB.out.later hb)
    have LS_1 := Lib.hid (LS.out.later hb)
    clear hb 
    go_wp2_with fail
    refine (HRA.out _ LA_1.out).mono ?_
    rintro en v2 ⟨rfl, hb⟩
    have HB2 := Lib.hid (HB1.out.trans (hb.mono HB1.out.size))
    have LA_2 := Lib.hid (LA_1.out.later hb)
    have LB_2 := Lib.hid (LB_1.out.later hb)
    have LS_2 := Lib.hid (LS_1.out.later hb)
    clear hb 
    go_wp2_with fail
    refine (HMB.out _ LB_2.out).mono ?_
    rintro en v3 ⟨rfl, hb⟩
    have HB3 := Lib.hid (HB2.out.trans (hb.mono HB2.out.size))
    have LA_3 := Lib.hid (LA_2.out.later hb)
    have LB_3 := Lib.hid (LB_2.out.later hb)
    have LS_3 := Lib.hid (LS_2.out.later hb)
    clear hb 
    go_wp2_with fail
    refine (HRB.out _ LB_3.out).mono ?_
    rintro en v4 ⟨rfl, hb⟩
    have HB4 := Lib.hid (HB3.out.trans (hb.mono HB3.out.size))
    have LA_4 := Lib.hid (LA_3.out.later hb)
    have LB_4 := Lib.hid (LB_3.out.later hb)
    have LS_4 := Lib.hid (LS_3.out.later hb)
    clear hb 
    go_wp2_with fail
    refine (HRA.out _ LA_4.out).mono ?_
    rintro en v5 ⟨rfl, hb⟩
    have HB5 := Lib.hid (HB4.out.trans (hb.mono HB4.out.size))
    have LA_5 := Lib.hid (LA_4.out.later hb)
    have LB_5 := Lib.hid (LB_4.out.later hb)
    have LS_5 := Lib.hid (LS_4.out.later hb)
    clear hb 
    go_wp2_with fail
    refine (HRB.out _ LB_5.out).mono ?_
    rintro en v6 ⟨rfl, hb⟩
    have HB6 := Lib.hid (HB5.out.trans (hb.mono HB5.out.size))
    have LA_6 := Lib.hid (LA_5.out.later hb)
    have LB_6 := Lib.hid (LB_5.out.later hb)
    have LS_6 := Lib.hid (LS_5.out.later hb)
    clear hb 
    go_wp2_with fail
    refine (awake_any _).mono ?_
    rintro en v7 ⟨rfl, hb⟩
    have HB7 := Lib.hid (HB6.out.trans (hb.mono HB6.out.size))
    have LA_7 := Lib.hid (LA_6.out.later hb)
    have LB_7 := Lib.hid (LB_6.out.later hb)
    have LS_7 := Lib.hid (LS_6.out.later hb)
    clear hb 
    go_wp2
    go_ret
    exact ⟨rfl, HB7.out⟩
  have VA := Lib.hid (Ow.mayB_iff.1 ha)
  have VB := Lib.hid (Ow.mayB_iff.1 hb)
  rw [ha] at HMA HRA
  rw [hb] at HMB HRB
  clear ha hb
  have HOF := Lib.hid (fun w' h => of_any a cap la x3 w' h VA.out)
  have HRO := Lib.hid (fun w' h => refOf_any a cap la x3 w' h)
  have HJ := Lib.hid (fun w' h1 h2 => join_any a b cap capb la lb w' VA.out VB.out h1 h2)
  have HRJ := Lib.hid (fun w' h1 h2 => refJoin_any a b cap capb la lb w' VA.out VB.out h1 h2)
  have HG := Lib.hid (fun w' hn h1 h2 => give_any a c cap capc la sl x4 x5 w' hn VA.out h3' h1 h2)
  have HRG := Lib.hid (fun w' hn h1 h2 => refGive_any a c cap capc la sl x4 x5 w' hn VA.out h3' h1 h2)
  have HWN := Lib.hid (fun w' h => owned_any a cap la x4 w' (by omega) h)
  have HRW := Lib.hid (fun w' h => refOwned_any a cap la x4 w' (by omega) h)
  have HVN : Hid (∀ c ∈ la, 0 ≤ c.n ∧ c.n < 8) := Lib.hid fun c hc => by have := VA.out.all c hc; unfold Ow.okC at this; omega
  have HMS := Lib.hid (fun w' h => masters_any a cap la w' (by omega) h HVN.out)
  have HRM := Lib.hid (fun w' h => refMasters_any a cap la w' (by omega) h)
  have hmlen := mastUp_len la 8
  cases ho : Ow.own la x3 with
  | none =>
    rw [ho] at HOF HRO
    simp only [Ow.zo, Ow.ro, Option.isSome] at HOF HRO
    obtain ⟨z, hz⟩ : ∃ z : Int, z = -1 := ⟨_, rfl⟩
    rw [← hz] at HRO
    have hzn : ¬ 0 ≤ z := by omega
    have hdz : decide (0 ≤ z) = false := by rw [decide_eq_false_iff_not]; exact hzn
    have hmz : max 0 z = 0 := by omega
    clear ho hz
    go_enter Try.func3, Try.ntmps3
    go_wp2_with fail
    refine (HMA.out _ LA.out).mono ?_
    rintro en v1 ⟨rfl, hb⟩
    have HB1 := Lib.hid hb
    have LA_1 := Lib.hid (LA.out.later hb)
    have LB_1 := Lib.hid (LB.out.later hb)
    have LS_1 := Lib.hid (LS.out.later hb)
    clear hb 
    go_wp2_with fail
    refine (HRA.out _ LA_1.out).mono ?_
    rintro en v2 ⟨rfl, hb⟩
    have HB2 := Lib.hid (HB1.out.trans (hb.mono HB1.out.size))
    have LA_2 := Lib.hid (LA_1.out.later hb)
    have LB_2 := Lib.hid (LB_1.out.later hb)
    have LS_2 := Lib.hid (LS_1.out.later hb)
    clear hb 
    go_wp2_with fail
    refine (HMB.out _ LB_2.out).mono ?_
    rintro en v3 ⟨rfl, hb⟩
    have HB3 := Lib.hid (HB2.out.trans (hb.mono HB2.out.size))
    have LA_3 := Lib.hid (LA_2.out.later hb)
    have LB_3 := Lib.hid (LB_2.out.later hb)
    have LS_3 := Lib.hid (LS_2.out.later hb)
    clear hb 
    go_wp2_with fail
    refine (HRB.out _ LB_3.out).mono ?_
    rintro en v4 ⟨rfl, hb⟩
    have HB4 := Lib.hid (HB3.out.trans (hb.mono HB3.out.size))
    have LA_4 := Lib.hid (LA_3.out.later hb)
    have LB_4 := Lib.hid (LB_3.out.later hb)
    have LS_4 := Lib.hid (LS_3.out.later hb)
    clear hb 
    go_wp2_with fail
    refine (HRA.out _ LA_4.out).mono ?_
    rintro en v5 ⟨rfl, hb⟩
    have HB5 := Lib.hid (HB4.out.trans (hb.mono HB4.out.size))
    have LA_5 := Lib.hid (LA_4.out.later hb)
    have LB_5 := Lib.hid (LB_4.out.later hb)
    have LS_5 := Lib.hid (LS_4.out.later hb)
    clear hb 
    go_wp2_with fail
    refine (HRB.out _ LB_5.out).mono ?_
    rintro en v6 ⟨rfl, hb⟩
    have HB6 := Lib.hid (HB5.out.trans (hb.mono HB5.out.size))
    have LA_6 := Lib.hid (LA_5.out.later hb)
    have LB_6 := Lib.hid (LB_5.out.later hb)
    have LS_6 := Lib.hid (LS_5.out.later hb)
    clear hb 
    go_wp2_with fail
    refine (HOF.out _ LA_6.out).mono ?_
    rintro en v7 ⟨rfl, hb⟩
    have HB7 := Lib.hid (HB6.out.trans (hb.mono HB6.out.size))
    have LA_7 := Lib.hid (LA_6.out.later hb)
    have LB_7 := Lib.hid (LB_6.out.later hb)
    have LS_7 := Lib.hid (LS_6.out.later hb)
    clear hb 
    go_wp2_with fail
    refine (HRO.out _ LA_7.out).mono ?_
    rintro en v8 ⟨rfl, hb⟩
    have HB8 := Lib.hid (HB7.out.trans (hb.mono HB7.out.size))
    have LA_8 := Lib.hid (LA_7.out.later hb)
    have LB_8 := Lib.hid (LB_7.out.later hb)
    have LS_8 := Lib.hid (LS_7.out.later hb)
    clear hb 
    go_wp2_with fail
    refine (HJ.out _ LA_8.out LB_8.out).mono ?_
    rintro en v9 ⟨aj, pj, lj, rfl, ht, hc, hb⟩
    have HB9 := Lib.hid (HB8.out.trans (hb.mono HB8.out.size))
    have LA_9 := Lib.hid (LA_8.out.later hb)
    have LB_9 := Lib.hid (LB_8.out.later hb)
    have LS_9 := Lib.hid (LS_8.out.later hb)
    have LJ_9 := Lib.hid hc
    clear hb hc
    have TJ := Lib.hid ht
    clear ht
    have qj := LJ_9.out.1
    have rj := LJ_9.out.2.1
    go_wp2_with fail
    refine (HRJ.out _ LA_9.out LB_9.out).mono ?_
    rintro en v10 ⟨ak, pk, lk, rfl, ht, hc, hb⟩
    have HB10 := Lib.hid (HB9.out.trans (hb.mono HB9.out.size))
    have LA_10 := Lib.hid (LA_9.out.later hb)
    have LB_10 := Lib.hid (LB_9.out.later hb)
    have LS_10 := Lib.hid (LS_9.out.later hb)
    have LJ_10 := Lib.hid (LJ_9.out.later hb)
    have LK_10 := Lib.hid hc
    clear hb hc
    have hq := told_one TJ.out ht fun k _ _ => rfl
    have HSM := Lib.hid (same_any _ _ _ _ lj lk _ LJ_10.out LK_10.out)
    rw [hq] at HSM
    have qk := LK_10.out.1
    have rk := LK_10.out.2.1
    clear hq ht
    go_wp2_with fail
    refine (HSM.out).mono ?_
    rintro en v11 ⟨rfl, hb⟩
    have HB11 := Lib.hid (HB10.out.trans (hb.mono HB10.out.size))
    have LA_11 := Lib.hid (LA_10.out.later hb)
    have LB_11 := Lib.hid (LB_10.out.later hb)
    have LS_11 := Lib.hid (LS_10.out.later hb)
    have LJ_11 := Lib.hid (LJ_10.out.later hb)
    have LK_11 := Lib.hid (LK_10.out.later hb)
    clear hb 
    clear HSM
    go_wp2_with fail
    refine (HWN.out _ LA_11.out).mono ?_
    rintro en v12 ⟨aw, pw, rfl, hs, hb⟩
    have HB12 := Lib.hid (HB11.out.trans (hb.mono HB11.out.size))
    have LA_12 := Lib.hid (LA_11.out.later hb)
    have LB_12 := Lib.hid (LB_11.out.later hb)
    have LS_12 := Lib.hid (LS_11.out.later hb)
    have LW_12 := Lib.hid hs
    clear hb hs
    go_wp2_with fail
    refine (HRW.out _ LA_12.out).mono ?_
    rintro en v13 ⟨ax, px, rfl, hs, hb⟩
    have HB13 := Lib.hid (HB12.out.trans (hb.mono HB12.out.size))
    have LA_13 := Lib.hid (LA_12.out.later hb)
    have LB_13 := Lib.hid (LB_12.out.later hb)
    have LS_13 := Lib.hid (LS_12.out.later hb)
    have LW_13 := Lib.hid (LW_12.out.later hb)
    have LX_13 := Lib.hid hs
    clear hb hs
    have HSS := Lib.hid (refSame_any _ _ _ _ _ _ _ LW_13.out LX_13.out)
    rw [decide_eq_true rfl] at HSS
    go_wp2_with fail
    refine (HSS.out).mono ?_
    rintro en v14 ⟨rfl, hb⟩
    have HB14 := Lib.hid (HB13.out.trans (hb.mono HB13.out.size))
    have LA_14 := Lib.hid (LA_13.out.later hb)
    have LB_14 := Lib.hid (LB_13.out.later hb)
    have LS_14 := Lib.hid (LS_13.out.later hb)
    have LW_14 := Lib.hid (LW_13.out.later hb)
    have LX_14 := Lib.hid (LX_13.out.later hb)
    clear hb 
    clear HSS
    go_wp2_with fail
    refine (HMS.out _ LA_14.out).mono ?_
    rintro en v15 ⟨am, pm, rfl, hi, hb⟩
    have HB15 := Lib.hid (HB14.out.trans (hb.mono HB14.out.size))
    have LA_15 := Lib.hid (LA_14.out.later hb)
    have LB_15 := Lib.hid (LB_14.out.later hb)
    have LS_15 := Lib.hid (LS_14.out.later hb)
    have LM_15 := Lib.hid hi
    clear hb hi
    go_wp2_with fail
    refine (HRM.out _ LA_15.out).mono ?_
    rintro en v16 ⟨an, pn, rfl, hi, hb⟩
    have HB16 := Lib.hid (HB15.out.trans (hb.mono HB15.out.size))
    have LA_16 := Lib.hid (LA_15.out.later hb)
    have LB_16 := Lib.hid (LB_15.out.later hb)
    have LS_16 := Lib.hid (LS_15.out.later hb)
    have LM_16 := Lib.hid (LM_15.out.later hb)
    have LN_16 := Lib.hid hi
    clear hb hi
    have HIN := Lib.hid (refInts_same _ _ _ _ (mastS la) _ (Nat.le_trans (mastUp_len la 8) (by decide)) LM_16.out LN_16.out)
    go_wp2_with fail
    refine (HIN.out).mono ?_
    rintro en v17 ⟨rfl, hb⟩
    have HB17 := Lib.hid (HB16.out.trans (hb.mono HB16.out.size))
    have LA_17 := Lib.hid (LA_16.out.later hb)
    have LB_17 := Lib.hid (LB_16.out.later hb)
    have LS_17 := Lib.hid (LS_16.out.later hb)
    have LM_17 := Lib.hid (LM_16.out.later hb)
    have LN_17 := Lib.hid (LN_16.out.later hb)
    clear hb 
    clear HIN
    by_cases y0 : x4 < 0
    case pos =>
      go_wp2_with fail
      refine (awake_any _).mono ?_
      rintro en v18 ⟨rfl, hb⟩
      have HB18 := Lib.hid (HB17.out.trans (hb.mono HB17.out.size))
      have LA_18 := Lib.hid (LA_17.out.later hb)
      have LB_18 := Lib.hid (LB_17.out.later hb)
      have LS_18 := Lib.hid (LS_17.out.later hb)
      clear hb 
      go_wp2
      go_ret
      exact ⟨rfl, HB18.out⟩
    by_cases y1 : 8 ≤ x4
    case pos =>
      go_wp2_with fail
      refine (awake_any _).mono ?_
      rintro en v18 ⟨rfl, hb⟩
      have HB18 := Lib.hid (HB17.out.trans (hb.mono HB17.out.size))
      have LA_18 := Lib.hid (LA_17.out.later hb)
      have LB_18 := Lib.hid (LB_17.out.later hb)
      have LS_18 := Lib.hid (LS_17.out.later hb)
      clear hb 
      go_wp2
      go_ret
      exact ⟨rfl, HB18.out⟩
    by_cases y2 : x5 < 1
    case pos =>
      go_wp2_with fail
      refine (awake_any _).mono ?_
      rintro en v18 ⟨rfl, hb⟩
      have HB18 := Lib.hid (HB17.out.trans (hb.mono HB17.out.size))
      have LA_18 := Lib.hid (LA_17.out.later hb)
      have LB_18 := Lib.hid (LB_17.out.later hb)
      have LS_18 := Lib.hid (LS_17.out.later hb)
      clear hb 
      go_wp2
      go_ret
      exact ⟨rfl, HB18.out⟩
    by_cases y3 : 9007199254740992 < x5
    case pos =>
      go_wp2_with fail
      refine (awake_any _).mono ?_
      rintro en v18 ⟨rfl, hb⟩
      have HB18 := Lib.hid (HB17.out.trans (hb.mono HB17.out.size))
      have LA_18 := Lib.hid (LA_17.out.later hb)
      have LB_18 := Lib.hid (LB_17.out.later hb)
      have LS_18 := Lib.hid (LS_17.out.later hb)
      clear hb 
      go_wp2
      go_ret
      exact ⟨rfl, HB18.out⟩
    have hn : 0 ≤ x4 ∧ x4 < 8 ∧ 1 ≤ x5 ∧ x5 ≤ 9007199254740992 := by omega
    go_wp2_with fail
    refine (HG.out _ hn LA_17.out LS_17.out).mono ?_
    rintro en v18 ⟨ag, pg, lg, rfl, ht, hc, hb⟩
    have HB18 := Lib.hid (HB17.out.trans (hb.mono HB17.out.size))
    have LA_18 := Lib.hid (LA_17.out.later hb)
    have LB_18 := Lib.hid (LB_17.out.later hb)
    have LS_18 := Lib.hid (LS_17.out.later hb)
    have LG_18 := Lib.hid hc
    clear hb hc
    have TG := Lib.hid ht
    clear ht
    have qg := LG_18.out.1
    have rg := LG_18.out.2.1
    go_wp2_with fail
    refine (HRG.out _ hn LA_18.out LS_18.out).mono ?_
    rintro en v19 ⟨ah, ph, lh, rfl, ht, hc, hb⟩
    have HB19 := Lib.hid (HB18.out.trans (hb.mono HB18.out.size))
    have LA_19 := Lib.hid (LA_18.out.later hb)
    have LB_19 := Lib.hid (LB_18.out.later hb)
    have LS_19 := Lib.hid (LS_18.out.later hb)
    have LG_19 := Lib.hid (LG_18.out.later hb)
    have LH_19 := Lib.hid hc
    clear hb hc
    have hq := told_one TG.out ht fun k _ _ => rfl
    have HSM := Lib.hid (same_any _ _ _ _ lg lh _ LG_19.out LH_19.out)
    rw [hq] at HSM
    have qh := LH_19.out.1
    have rh := LH_19.out.2.1
    clear hq ht
    go_wp2_with fail
    refine (HSM.out).mono ?_
    rintro en v20 ⟨rfl, hb⟩
    have HB20 := Lib.hid (HB19.out.trans (hb.mono HB19.out.size))
    have LA_20 := Lib.hid (LA_19.out.later hb)
    have LB_20 := Lib.hid (LB_19.out.later hb)
    have LS_20 := Lib.hid (LS_19.out.later hb)
    have LG_20 := Lib.hid (LG_19.out.later hb)
    have LH_20 := Lib.hid (LH_19.out.later hb)
    clear hb 
    clear HSM
    go_wp2_with fail
    refine (awake_any _).mono ?_
    rintro en v21 ⟨rfl, hb⟩
    have HB21 := Lib.hid (HB20.out.trans (hb.mono HB20.out.size))
    have LA_21 := Lib.hid (LA_20.out.later hb)
    have LB_21 := Lib.hid (LB_20.out.later hb)
    have LS_21 := Lib.hid (LS_20.out.later hb)
    have LG_21 := Lib.hid (LG_20.out.later hb)
    have LH_21 := Lib.hid (LH_20.out.later hb)
    clear hb 
    go_wp2
    go_ret
    exact ⟨rfl, HB21.out⟩
  | some o =>
    obtain ⟨on, oe⟩ := o
    have hon : 0 ≤ on := by
      obtain ⟨c, hc, hi, he⟩ := Ow.own_some ho
      have := HVN.out c hc
      simp only [Prod.mk.injEq] at he
      omega
    rw [ho] at HOF HRO
    simp only [Ow.zo, Ow.ro, Option.isSome] at HOF HRO
    have hdn : decide (0 ≤ on) = true := by rw [decide_eq_true_eq]; exact hon
    have hmx : max 0 on = on := by omega
    have hnn : (on != on) = false := by simp
    have hee : (oe != oe) = false := by simp
    clear ho
    go_enter Try.func3, Try.ntmps3
    go_wp2_with fail
    refine (HMA.out _ LA.out).mono ?_
    rintro en v1 ⟨rfl, hb⟩
    have HB1 := Lib.hid hb
    have LA_1 := Lib.hid (LA.out.later hb)
    have LB_1 := Lib.hid (LB.out.later hb)
    have LS_1 := Lib.hid (LS.out.later hb)
    clear hb 
    go_wp2_with fail
    refine (HRA.out _ LA_1.out).mono ?_
    rintro en v2 ⟨rfl, hb⟩
    have HB2 := Lib.hid (HB1.out.trans (hb.mono HB1.out.size))
    have LA_2 := Lib.hid (LA_1.out.later hb)
    have LB_2 := Lib.hid (LB_1.out.later hb)
    have LS_2 := Lib.hid (LS_1.out.later hb)
    clear hb 
    go_wp2_with fail
    refine (HMB.out _ LB_2.out).mono ?_
    rintro en v3 ⟨rfl, hb⟩
    have HB3 := Lib.hid (HB2.out.trans (hb.mono HB2.out.size))
    have LA_3 := Lib.hid (LA_2.out.later hb)
    have LB_3 := Lib.hid (LB_2.out.later hb)
    have LS_3 := Lib.hid (LS_2.out.later hb)
    clear hb 
    go_wp2_with fail
    refine (HRB.out _ LB_3.out).mono ?_
    rintro en v4 ⟨rfl, hb⟩
    have HB4 := Lib.hid (HB3.out.trans (hb.mono HB3.out.size))
    have LA_4 := Lib.hid (LA_3.out.later hb)
    have LB_4 := Lib.hid (LB_3.out.later hb)
    have LS_4 := Lib.hid (LS_3.out.later hb)
    clear hb 
    go_wp2_with fail
    refine (HRA.out _ LA_4.out).mono ?_
    rintro en v5 ⟨rfl, hb⟩
    have HB5 := Lib.hid (HB4.out.trans (hb.mono HB4.out.size))
    have LA_5 := Lib.hid (LA_4.out.later hb)
    have LB_5 := Lib.hid (LB_4.out.later hb)
    have LS_5 := Lib.hid (LS_4.out.later hb)
    clear hb 
    go_wp2_with fail
    refine (HRB.out _ LB_5.out).mono ?_
    rintro en v6 ⟨rfl, hb⟩
    have HB6 := Lib.hid (HB5.out.trans (hb.mono HB5.out.size))
    have LA_6 := Lib.hid (LA_5.out.later hb)
    have LB_6 := Lib.hid (LB_5.out.later hb)
    have LS_6 := Lib.hid (LS_5.out.later hb)
    clear hb 
    go_wp2_with fail
    refine (HOF.out _ LA_6.out).mono ?_
    rintro en v7 ⟨rfl, hb⟩
    have HB7 := Lib.hid (HB6.out.trans (hb.mono HB6.out.size))
    have LA_7 := Lib.hid (LA_6.out.later hb)
    have LB_7 := Lib.hid (LB_6.out.later hb)
    have LS_7 := Lib.hid (LS_6.out.later hb)
    clear hb 
    go_wp2_with fail
    refine (HRO.out _ LA_7.out).mono ?_
    rintro en v8 ⟨rfl, hb⟩
    have HB8 := Lib.hid (HB7.out.trans (hb.mono HB7.out.size))
    have LA_8 := Lib.hid (LA_7.out.later hb)
    have LB_8 := Lib.hid (LB_7.out.later hb)
    have LS_8 := Lib.hid (LS_7.out.later hb)
    clear hb 
    go_wp2_with fail
    refine (HJ.out _ LA_8.out LB_8.out).mono ?_
    rintro en v9 ⟨aj, pj, lj, rfl, ht, hc, hb⟩
    have HB9 := Lib.hid (HB8.out.trans (hb.mono HB8.out.size))
    have LA_9 := Lib.hid (LA_8.out.later hb)
    have LB_9 := Lib.hid (LB_8.out.later hb)
    have LS_9 := Lib.hid (LS_8.out.later hb)
    have LJ_9 := Lib.hid hc
    clear hb hc
    have TJ := Lib.hid ht
    clear ht
    have qj := LJ_9.out.1
    have rj := LJ_9.out.2.1
    go_wp2_with fail
    refine (HRJ.out _ LA_9.out LB_9.out).mono ?_
    rintro en v10 ⟨ak, pk, lk, rfl, ht, hc, hb⟩
    have HB10 := Lib.hid (HB9.out.trans (hb.mono HB9.out.size))
    have LA_10 := Lib.hid (LA_9.out.later hb)
    have LB_10 := Lib.hid (LB_9.out.later hb)
    have LS_10 := Lib.hid (LS_9.out.later hb)
    have LJ_10 := Lib.hid (LJ_9.out.later hb)
    have LK_10 := Lib.hid hc
    clear hb hc
    have hq := told_one TJ.out ht fun k _ _ => rfl
    have HSM := Lib.hid (same_any _ _ _ _ lj lk _ LJ_10.out LK_10.out)
    rw [hq] at HSM
    have qk := LK_10.out.1
    have rk := LK_10.out.2.1
    clear hq ht
    go_wp2_with fail
    refine (HSM.out).mono ?_
    rintro en v11 ⟨rfl, hb⟩
    have HB11 := Lib.hid (HB10.out.trans (hb.mono HB10.out.size))
    have LA_11 := Lib.hid (LA_10.out.later hb)
    have LB_11 := Lib.hid (LB_10.out.later hb)
    have LS_11 := Lib.hid (LS_10.out.later hb)
    have LJ_11 := Lib.hid (LJ_10.out.later hb)
    have LK_11 := Lib.hid (LK_10.out.later hb)
    clear hb 
    clear HSM
    go_wp2_with fail
    refine (HWN.out _ LA_11.out).mono ?_
    rintro en v12 ⟨aw, pw, rfl, hs, hb⟩
    have HB12 := Lib.hid (HB11.out.trans (hb.mono HB11.out.size))
    have LA_12 := Lib.hid (LA_11.out.later hb)
    have LB_12 := Lib.hid (LB_11.out.later hb)
    have LS_12 := Lib.hid (LS_11.out.later hb)
    have LW_12 := Lib.hid hs
    clear hb hs
    go_wp2_with fail
    refine (HRW.out _ LA_12.out).mono ?_
    rintro en v13 ⟨ax, px, rfl, hs, hb⟩
    have HB13 := Lib.hid (HB12.out.trans (hb.mono HB12.out.size))
    have LA_13 := Lib.hid (LA_12.out.later hb)
    have LB_13 := Lib.hid (LB_12.out.later hb)
    have LS_13 := Lib.hid (LS_12.out.later hb)
    have LW_13 := Lib.hid (LW_12.out.later hb)
    have LX_13 := Lib.hid hs
    clear hb hs
    have HSS := Lib.hid (refSame_any _ _ _ _ _ _ _ LW_13.out LX_13.out)
    rw [decide_eq_true rfl] at HSS
    go_wp2_with fail
    refine (HSS.out).mono ?_
    rintro en v14 ⟨rfl, hb⟩
    have HB14 := Lib.hid (HB13.out.trans (hb.mono HB13.out.size))
    have LA_14 := Lib.hid (LA_13.out.later hb)
    have LB_14 := Lib.hid (LB_13.out.later hb)
    have LS_14 := Lib.hid (LS_13.out.later hb)
    have LW_14 := Lib.hid (LW_13.out.later hb)
    have LX_14 := Lib.hid (LX_13.out.later hb)
    clear hb 
    clear HSS
    go_wp2_with fail
    refine (HMS.out _ LA_14.out).mono ?_
    rintro en v15 ⟨am, pm, rfl, hi, hb⟩
    have HB15 := Lib.hid (HB14.out.trans (hb.mono HB14.out.size))
    have LA_15 := Lib.hid (LA_14.out.later hb)
    have LB_15 := Lib.hid (LB_14.out.later hb)
    have LS_15 := Lib.hid (LS_14.out.later hb)
    have LM_15 := Lib.hid hi
    clear hb hi
    go_wp2_with fail
    refine (HRM.out _ LA_15.out).mono ?_
    rintro en v16 ⟨an, pn, rfl, hi, hb⟩
    have HB16 := Lib.hid (HB15.out.trans (hb.mono HB15.out.size))
    have LA_16 := Lib.hid (LA_15.out.later hb)
    have LB_16 := Lib.hid (LB_15.out.later hb)
    have LS_16 := Lib.hid (LS_15.out.later hb)
    have LM_16 := Lib.hid (LM_15.out.later hb)
    have LN_16 := Lib.hid hi
    clear hb hi
    have HIN := Lib.hid (refInts_same _ _ _ _ (mastS la) _ (Nat.le_trans (mastUp_len la 8) (by decide)) LM_16.out LN_16.out)
    go_wp2_with fail
    refine (HIN.out).mono ?_
    rintro en v17 ⟨rfl, hb⟩
    have HB17 := Lib.hid (HB16.out.trans (hb.mono HB16.out.size))
    have LA_17 := Lib.hid (LA_16.out.later hb)
    have LB_17 := Lib.hid (LB_16.out.later hb)
    have LS_17 := Lib.hid (LS_16.out.later hb)
    have LM_17 := Lib.hid (LM_16.out.later hb)
    have LN_17 := Lib.hid (LN_16.out.later hb)
    clear hb 
    clear HIN
    by_cases y0 : x4 < 0
    case pos =>
      go_wp2_with fail
      refine (awake_any _).mono ?_
      rintro en v18 ⟨rfl, hb⟩
      have HB18 := Lib.hid (HB17.out.trans (hb.mono HB17.out.size))
      have LA_18 := Lib.hid (LA_17.out.later hb)
      have LB_18 := Lib.hid (LB_17.out.later hb)
      have LS_18 := Lib.hid (LS_17.out.later hb)
      clear hb 
      go_wp2
      go_ret
      exact ⟨rfl, HB18.out⟩
    by_cases y1 : 8 ≤ x4
    case pos =>
      go_wp2_with fail
      refine (awake_any _).mono ?_
      rintro en v18 ⟨rfl, hb⟩
      have HB18 := Lib.hid (HB17.out.trans (hb.mono HB17.out.size))
      have LA_18 := Lib.hid (LA_17.out.later hb)
      have LB_18 := Lib.hid (LB_17.out.later hb)
      have LS_18 := Lib.hid (LS_17.out.later hb)
      clear hb 
      go_wp2
      go_ret
      exact ⟨rfl, HB18.out⟩
    by_cases y2 : x5 < 1
    case pos =>
      go_wp2_with fail
      refine (awake_any _).mono ?_
      rintro en v18 ⟨rfl, hb⟩
      have HB18 := Lib.hid (HB17.out.trans (hb.mono HB17.out.size))
      have LA_18 := Lib.hid (LA_17.out.later hb)
      have LB_18 := Lib.hid (LB_17.out.later hb)
      have LS_18 := Lib.hid (LS_17.out.later hb)
      clear hb 
      go_wp2
      go_ret
      exact ⟨rfl, HB18.out⟩
    by_cases y3 : 9007199254740992 < x5
    case pos =>
      go_wp2_with fail
      refine (awake_any _).mono ?_
      rintro en v18 ⟨rfl, hb⟩
      have HB18 := Lib.hid (HB17.out.trans (hb.mono HB17.out.size))
      have LA_18 := Lib.hid (LA_17.out.later hb)
      have LB_18 := Lib.hid (LB_17.out.later hb)
      have LS_18 := Lib.hid (LS_17.out.later hb)
      clear hb 
      go_wp2
      go_ret
      exact ⟨rfl, HB18.out⟩
    have hn : 0 ≤ x4 ∧ x4 < 8 ∧ 1 ≤ x5 ∧ x5 ≤ 9007199254740992 := by omega
    go_wp2_with fail
    refine (HG.out _ hn LA_17.out LS_17.out).mono ?_
    rintro en v18 ⟨ag, pg, lg, rfl, ht, hc, hb⟩
    have HB18 := Lib.hid (HB17.out.trans (hb.mono HB17.out.size))
    have LA_18 := Lib.hid (LA_17.out.later hb)
    have LB_18 := Lib.hid (LB_17.out.later hb)
    have LS_18 := Lib.hid (LS_17.out.later hb)
    have LG_18 := Lib.hid hc
    clear hb hc
    have TG := Lib.hid ht
    clear ht
    have qg := LG_18.out.1
    have rg := LG_18.out.2.1
    go_wp2_with fail
    refine (HRG.out _ hn LA_18.out LS_18.out).mono ?_
    rintro en v19 ⟨ah, ph, lh, rfl, ht, hc, hb⟩
    have HB19 := Lib.hid (HB18.out.trans (hb.mono HB18.out.size))
    have LA_19 := Lib.hid (LA_18.out.later hb)
    have LB_19 := Lib.hid (LB_18.out.later hb)
    have LS_19 := Lib.hid (LS_18.out.later hb)
    have LG_19 := Lib.hid (LG_18.out.later hb)
    have LH_19 := Lib.hid hc
    clear hb hc
    have hq := told_one TG.out ht fun k _ _ => rfl
    have HSM := Lib.hid (same_any _ _ _ _ lg lh _ LG_19.out LH_19.out)
    rw [hq] at HSM
    have qh := LH_19.out.1
    have rh := LH_19.out.2.1
    clear hq ht
    go_wp2_with fail
    refine (HSM.out).mono ?_
    rintro en v20 ⟨rfl, hb⟩
    have HB20 := Lib.hid (HB19.out.trans (hb.mono HB19.out.size))
    have LA_20 := Lib.hid (LA_19.out.later hb)
    have LB_20 := Lib.hid (LB_19.out.later hb)
    have LS_20 := Lib.hid (LS_19.out.later hb)
    have LG_20 := Lib.hid (LG_19.out.later hb)
    have LH_20 := Lib.hid (LH_19.out.later hb)
    clear hb 
    clear HSM
    go_wp2_with fail
    refine (awake_any _).mono ?_
    rintro en v21 ⟨rfl, hb⟩
    have HB21 := Lib.hid (HB20.out.trans (hb.mono HB20.out.size))
    have LA_21 := Lib.hid (LA_20.out.later hb)
    have LB_21 := Lib.hid (LB_20.out.later hb)
    have LS_21 := Lib.hid (LS_20.out.later hb)
    have LG_21 := Lib.hid (LG_20.out.later hb)
    have LH_21 := Lib.hid (LH_20.out.later hb)
    clear hb 
    go_wp2
    go_ret
    exact ⟨rfl, HB21.out⟩

set_option maxRecDepth 100000 in
theorem lifted (os : Os) (started : os.Started) (H : Type) (enc : TypeId × Value → H) :
    ReturnsInHanded {} Try.checked os 3 .any (Rows.claimsAllSpec.pre6 enc Try.prog Try.f3 Rows.claimsAllRow.domain false) (Rows.claimsAllSpec.post enc Try.prog Try.f3 false true false false) := by
  refine returnsInHanded_of_change (C := Try.checked) own started (by kernel_rfl) Try.func3
    (ChangeSpec.witness6 (enc := enc) (C := Try.checked) false ⟨#[], #[.slice none 0 0, .slice none 0 0, .slice none 0 0, .int .i64 0, .int .i64 0, .int .i64 0], []⟩ 8 (by kernel_rfl) (by kernel_rfl) (by kernel_rfl) (by kernel_rfl)) ?_
  intro W base args ds gs before hval0 hW hcnd _
  have hval : ∀ (j : Nat) t v, Try.f3.params[j]? = some t → args[j]? = some v → Value.okWide Try.prog W .any base t v := hval0
  have hW' := hW
  obtain ⟨p, q, hA0, hV, rfl, hfz, hnd⟩ := hW
  have hA : DataW.TrodAll enc Try.prog W 0 (fun _ => true) true Try.f3.params.toList args.toList ds p := hA0
  rw [Try.params3] at hA hval
  obtain ⟨v0, vs0, d0, ds0, p0, q0, hargs, rfl, rfl, h0, r0⟩ := trodAll_cons hA
  obtain ⟨v1, vs1, d1, ds1, p1, q1, rfl, rfl, rfl, h1, r1⟩ := trodAll_cons r0
  obtain ⟨v2, vs2, d2, ds2, p2, q2, rfl, rfl, rfl, h2, r2⟩ := trodAll_cons r1
  obtain ⟨v3, vs3, d3, ds3, p3, q3, rfl, rfl, rfl, h3, r3⟩ := trodAll_cons r2
  obtain ⟨v4, vs4, d4, ds4, p4, q4, rfl, rfl, rfl, h4, r4⟩ := trodAll_cons r3
  obtain ⟨v5, vs5, d5, ds5, p5, q5, rfl, rfl, rfl, h5, r5⟩ := trodAll_cons r4
  obtain ⟨rfl, rfl, rfl⟩ := trodAll_nil r5
  obtain rfl : args = #[v0, v1, v2, v3, v4, v5] := by cases args; simp_all
  obtain ⟨rfl, rfl⟩ := trodVars_none hV
  obtain ⟨a0, len0, cap0, rfl⟩ := okWide_slice Try.underlying22 (hval 0 22 v0 rfl rfl)
  have k0 := h0
  have lt0 : ∀ x ∈ p0, x.block < W.heap.size := by obtain ⟨m, hm⟩ := k0; exact DataW.trod_lt m _ _ _ hm
  obtain ⟨z0, rfl, w0⟩ : ∃ l : List Ow.C, len0 = l.length ∧ Cls W a0 cap0 l := by
    obtain ⟨fuel, hf⟩ := h0
    exact open_claims hf
  obtain ⟨a1, len1, cap1, rfl⟩ := okWide_slice Try.underlying22 (hval 1 22 v1 rfl rfl)
  have k1 := h1
  have lt1 : ∀ x ∈ p1, x.block < W.heap.size := by obtain ⟨m, hm⟩ := k1; exact DataW.trod_lt m _ _ _ hm
  obtain ⟨z1, rfl, w1⟩ : ∃ l : List Ow.C, len1 = l.length ∧ Cls W a1 cap1 l := by
    obtain ⟨fuel, hf⟩ := h1
    exact open_claims hf
  obtain ⟨a2, len2, cap2, rfl⟩ := okWide_slice Try.underlying23 (hval 2 23 v2 rfl rfl)
  have k2 := h2
  have lt2 : ∀ x ∈ p2, x.block < W.heap.size := by obtain ⟨m, hm⟩ := k2; exact DataW.trod_lt m _ _ _ hm
  obtain ⟨z2, rfl, w2⟩ : ∃ l : List Sp.S, len2 = l.length ∧ Spans W a2 cap2 l := by
    obtain ⟨fuel, hf⟩ := h2
    exact open_spans hf
  obtain ⟨a3, rfl, rfl, rfl, w3⟩ := open_int Try.underlying3 (hval 3 3 v3 rfl rfl) h3
  obtain ⟨a4, rfl, rfl, rfl, w4⟩ := open_int Try.underlying3 (hval 4 3 v4 rfl rfl) h4
  obtain ⟨a5, rfl, rfl, rfl, w5⟩ := open_int Try.underlying3 (hval 5 3 v5 rfl rfl) h5
  clear hA0 hval0
  refine (walk a0 cap0 z0 a1 cap1 z1 a2 cap2 z2 a3 a4 a5 W w0 w1 w2 w3 w4 w5).mono fun e W' ⟨he, bel⟩ => ?_
  subst he
  exact ⟨_, rfl, _, _, _, [], _, [], hW', trodAll_mk1 (shut_bool Try.underlying4 _), (trodAll_cons_mk (Below.trod laidOut (by kernel_rfl) (of_decide_eq_true (by kernel_rfl)) k0 bel lt0) (trodAll_cons_mk (Below.trod laidOut (by kernel_rfl) (of_decide_eq_true (by kernel_rfl)) k1 bel lt1) (trodAll_cons_mk (Below.trod laidOut (by kernel_rfl) (of_decide_eq_true (by kernel_rfl)) k2 bel lt2) (trodAll_cons_mk (shut_int Try.underlying3 w3) (trodAll_cons_mk (shut_int Try.underlying3 w4) (trodAll_cons_mk (shut_int Try.underlying3 w5) trodAll_mk0)))))), rfl, bel.frame _, fun h => by cases h⟩

theorem over : Rows.claimsAllRow.holds Try.pinned (OpenSpec.ofChange Rows.claimsAllSpec) :=
  OpenClaim.holds_of_wide 3 Try.f3 rfl rfl rfl rfl rfl rfl rfl ⟨rfl, rfl, rfl, rfl, rfl⟩ rfl rfl rfl rfl rfl (by kernel_rfl) Try.func3 (by kernel_rfl)
    (of_decide_eq_true (by kernel_rfl)) (by unfold Func.isWrapper; first | (rw [if_pos (by decide +kernel)]; kernel_rfl) | (rw [if_neg (by decide +kernel)]; exact ⟨rfl, rfl⟩))
    (fun os started H enc _ => lifted os started H enc)

theorem proved : Rows.ClaimsAllSaid := over
#print axioms proved
end Go.Proofs.Ytchladbjhodkoaa.claimsAll
