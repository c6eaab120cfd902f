/- For all lists of numbers the law ClaimsJoin returns true and leaves the lists as they were. No condition. -/
import Derived.Test.YtchladbjhodkoaaRows
import Derived.Test.YtchladbjhodkoaaOwAwake
import Derived.Test.YtchladbjhodkoaaOwMake
import Derived.ProofKit
import Derived.OpenShut
import Derived.ShutString
import Derived.SliceStrings
import Derived.ChangeOld
namespace Go.Proofs.Ytchladbjhodkoaa.claimsJoin
open Go.ChangeShapes Go.WideShapes Go.ChangeAt Go.RowKit
open Go.ChangeMaps (open_string shut_string)
set_option linter.unusedVariables false

theorem own : ownKnob Try.prog.godebug = none := by kernel_rfl
theorem laidOut : laidOutB Try.prog = true := by kernel_rfl

theorem join_again (a b : Option Ow.O) : Ow.joinO (Ow.joinO a b) a = Ow.joinO a b := by
  rw [Ow.joinO_comm a b, Ow.joinO_assoc, Ow.joinO_self]

set_option maxRecDepth 100000 in
set_option maxHeartbeats 8000000 in
theorem walk (a : Option Addr) (cap : Nat) (aS : List Int) (b : Option Addr) (capb : Nat) (bs : List Int) (c : Option Addr) (capc : Nat) (cs : List Int) (w : World) (hA : U16s w a cap aS) (hB : U16s w b capb bs) (hC : U16s w c capc cs) :
    Calls Try.prog 5 #[.slice a aS.length cap, .slice b bs.length capb, .slice c cs.length capc] w fun e w' => e = .returned (.bool true) ∧ Below w.heap.size w w' := by
  have l1 := hA.1
  have l2 := hA.2.1
  have l3 := hB.1
  have l4 := hB.2.1
  have l5 := hC.1
  have l6 := hC.2.1
  by_cases h1 : (60 : Int) < (aS.length : Int)
  · skip
    clear hA hB hC
    go_enter Try.func5, Try.ntmps5
    go_wp2_with (go_at_call 9; refine (awake_any _).mono ?_; rintro e w1 ⟨rfl, hb⟩; have HB := Lib.hid hb; clear hb)
    go_ret
    exact ⟨rfl, HB.out⟩
  by_cases h2 : (60 : Int) < (bs.length : Int)
  · skip
    clear hA hB hC
    go_enter Try.func5, Try.ntmps5
    go_wp2_with (go_at_call 9; refine (awake_any _).mono ?_; rintro e w1 ⟨rfl, hb⟩; have HB := Lib.hid hb; clear hb)
    go_ret
    exact ⟨rfl, HB.out⟩
  by_cases h3 : (60 : Int) < (cs.length : Int)
  · skip
    clear hA hB hC
    go_enter Try.func5, Try.ntmps5
    go_wp2_with (go_at_call 9; refine (awake_any _).mono ?_; rintro e w1 ⟨rfl, hb⟩; have HB := Lib.hid hb; clear hb)
    go_ret
    exact ⟨rfl, HB.out⟩
  have UA := Lib.hid hA
  have UB := Lib.hid hB
  have UC := Lib.hid hC
  have n1 : aS.length ≤ 1000 := by omega
  have n2 : bs.length ≤ 1000 := by omega
  have n3 : cs.length ≤ 1000 := by omega
  clear hA hB hC
  go_enter Try.func5, Try.ntmps5
  go_wp2_with fail
  refine (makeC_any _ _ _ _ n1 UA.out).mono ?_
  rintro en v1 ⟨a1, p1, la, rfl, va, hc, hb⟩
  have HB1 := Lib.hid hb
  have LUA_1 := Lib.hid (UA.out.later hb)
  have LUB_1 := Lib.hid (UB.out.later hb)
  have LUC_1 := Lib.hid (UC.out.later hb)
  have LA_1 := Lib.hid hc
  clear hb hc
  have VA := Lib.hid va
  go_wp2_with fail
  refine (makeC_any _ _ _ _ n2 LUB_1.out).mono ?_
  rintro en v2 ⟨a2, p2, lb, rfl, vb, hc, hb⟩
  have HB2 := Lib.hid (HB1.out.trans (hb.mono HB1.out.size))
  have LUA_2 := Lib.hid (LUA_1.out.later hb)
  have LUB_2 := Lib.hid (LUB_1.out.later hb)
  have LUC_2 := Lib.hid (LUC_1.out.later hb)
  have LA_2 := Lib.hid (LA_1.out.later hb)
  have LB_2 := Lib.hid hc
  clear hb hc
  have VB := Lib.hid vb
  go_wp2_with fail
  refine (makeC_any _ _ _ _ n3 LUC_2.out).mono ?_
  rintro en v3 ⟨a3, p3, lc, rfl, vc, hc, hb⟩
  have HB3 := Lib.hid (HB2.out.trans (hb.mono HB2.out.size))
  have LUA_3 := Lib.hid (LUA_2.out.later hb)
  have LUB_3 := Lib.hid (LUB_2.out.later hb)
  have LUC_3 := Lib.hid (LUC_2.out.later hb)
  have LA_3 := Lib.hid (LA_2.out.later hb)
  have LB_3 := Lib.hid (LB_2.out.later hb)
  have LC_3 := Lib.hid hc
  clear hb hc
  have VC := Lib.hid vc
  clear va vb vc
  go_wp2_with fail
  refine (join_any _ _ _ _ _ _ _ VA.out VB.out LA_3.out LB_3.out).mono ?_
  rintro en v4 ⟨aJ, pJ, lJ, rfl, ht, hc, hb⟩
  have HB4 := Lib.hid (HB3.out.trans (hb.mono HB3.out.size))
  have LA_4 := Lib.hid (LA_3.out.later hb)
  have LB_4 := Lib.hid (LB_3.out.later hb)
  have LC_4 := Lib.hid (LC_3.out.later hb)
  have LJ_4 := Lib.hid hc
  clear hb hc
  have TJ := Lib.hid ht
  have qJ := LJ_4.out.1
  have rJ := LJ_4.out.2.1
  clear ht
  go_wp2_with fail
  refine (join_any _ _ _ _ _ _ _ VB.out VA.out LB_4.out LA_4.out).mono ?_
  rintro en v5 ⟨aD, pD, lD, rfl, ht, hc, hb⟩
  have HB5 := Lib.hid (HB4.out.trans (hb.mono HB4.out.size))
  have LA_5 := Lib.hid (LA_4.out.later hb)
  have LB_5 := Lib.hid (LB_4.out.later hb)
  have LC_5 := Lib.hid (LC_4.out.later hb)
  have LJ_5 := Lib.hid (LJ_4.out.later hb)
  have LD_5 := Lib.hid hc
  clear hb hc
  have TD := Lib.hid ht
  have qD := LD_5.out.1
  have rD := LD_5.out.2.1
  clear ht
  have hq : sameC lJ lD = true := told_one TJ.out TD.out fun k _ _ => Ow.joinO_comm _ _
  have HSM := Lib.hid (same_any _ _ _ _ lJ lD _ LJ_5.out LD_5.out)
  rw [hq] at HSM
  clear hq
  go_wp2_with fail
  refine (HSM.out).mono ?_
  rintro en v6 ⟨rfl, hb⟩
  have HB6 := Lib.hid (HB5.out.trans (hb.mono HB5.out.size))
  have LA_6 := Lib.hid (LA_5.out.later hb)
  have LB_6 := Lib.hid (LB_5.out.later hb)
  have LC_6 := Lib.hid (LC_5.out.later hb)
  have LJ_6 := Lib.hid (LJ_5.out.later hb)
  have LD_6 := Lib.hid (LD_5.out.later hb)
  clear hb 
  clear HSM
  go_wp2_with fail
  refine (join_any _ _ _ _ _ _ _ TJ.out.1 VC.out LJ_6.out LC_6.out).mono ?_
  rintro en v7 ⟨aE, pE, lE, rfl, ht, hc, hb⟩
  have HB7 := Lib.hid (HB6.out.trans (hb.mono HB6.out.size))
  have LA_7 := Lib.hid (LA_6.out.later hb)
  have LB_7 := Lib.hid (LB_6.out.later hb)
  have LC_7 := Lib.hid (LC_6.out.later hb)
  have LJ_7 := Lib.hid (LJ_6.out.later hb)
  have LE_7 := Lib.hid hc
  clear hb hc
  have TE := Lib.hid ht
  have qE := LE_7.out.1
  have rE := LE_7.out.2.1
  clear ht
  go_wp2_with fail
  refine (join_any _ _ _ _ _ _ _ VB.out VC.out LB_7.out LC_7.out).mono ?_
  rintro en v8 ⟨aF, pF, lF, rfl, ht, hc, hb⟩
  have HB8 := Lib.hid (HB7.out.trans (hb.mono HB7.out.size))
  have LA_8 := Lib.hid (LA_7.out.later hb)
  have LB_8 := Lib.hid (LB_7.out.later hb)
  have LC_8 := Lib.hid (LC_7.out.later hb)
  have LJ_8 := Lib.hid (LJ_7.out.later hb)
  have LE_8 := Lib.hid (LE_7.out.later hb)
  have LF_8 := Lib.hid hc
  clear hb hc
  have TF := Lib.hid ht
  have qF := LF_8.out.1
  have rF := LF_8.out.2.1
  clear ht
  go_wp2_with fail
  refine (join_any _ _ _ _ _ _ _ VA.out TF.out.1 LA_8.out LF_8.out).mono ?_
  rintro en v9 ⟨aG, pG, lG, rfl, ht, hc, hb⟩
  have HB9 := Lib.hid (HB8.out.trans (hb.mono HB8.out.size))
  have LA_9 := Lib.hid (LA_8.out.later hb)
  have LB_9 := Lib.hid (LB_8.out.later hb)
  have LC_9 := Lib.hid (LC_8.out.later hb)
  have LJ_9 := Lib.hid (LJ_8.out.later hb)
  have LE_9 := Lib.hid (LE_8.out.later hb)
  have LF_9 := Lib.hid (LF_8.out.later hb)
  have LG_9 := Lib.hid hc
  clear hb hc
  have TG := Lib.hid ht
  have qG := LG_9.out.1
  have rG := LG_9.out.2.1
  clear ht
  have hq : sameC lE lG = true := told_one TE.out TG.out fun k h0 h1 => by rw [TJ.out.2.2 k h0 h1, TF.out.2.2 k h0 h1]; exact Ow.joinO_assoc _ _ _
  have HSM := Lib.hid (same_any _ _ _ _ lE lG _ LE_9.out LG_9.out)
  rw [hq] at HSM
  clear hq
  go_wp2_with fail
  refine (HSM.out).mono ?_
  rintro en v10 ⟨rfl, hb⟩
  have HB10 := Lib.hid (HB9.out.trans (hb.mono HB9.out.size))
  have LA_10 := Lib.hid (LA_9.out.later hb)
  have LB_10 := Lib.hid (LB_9.out.later hb)
  have LC_10 := Lib.hid (LC_9.out.later hb)
  have LJ_10 := Lib.hid (LJ_9.out.later hb)
  have LE_10 := Lib.hid (LE_9.out.later hb)
  have LF_10 := Lib.hid (LF_9.out.later hb)
  have LG_10 := Lib.hid (LG_9.out.later hb)
  clear hb 
  clear HSM
  go_wp2_with fail
  refine (join_any _ _ _ _ _ _ _ TJ.out.1 VA.out LJ_10.out LA_10.out).mono ?_
  rintro en v11 ⟨aH, pH, lH, rfl, ht, hc, hb⟩
  have HB11 := Lib.hid (HB10.out.trans (hb.mono HB10.out.size))
  have LA_11 := Lib.hid (LA_10.out.later hb)
  have LB_11 := Lib.hid (LB_10.out.later hb)
  have LC_11 := Lib.hid (LC_10.out.later hb)
  have LJ_11 := Lib.hid (LJ_10.out.later hb)
  have LH_11 := Lib.hid hc
  clear hb hc
  have TH := Lib.hid ht
  have qH := LH_11.out.1
  have rH := LH_11.out.2.1
  clear ht
  have hq : sameC lH lJ = true := told_one TH.out TJ.out fun k h0 h1 => by rw [TJ.out.2.2 k h0 h1]; exact join_again _ _
  have HSM := Lib.hid (same_any _ _ _ _ lH lJ _ LH_11.out LJ_11.out)
  rw [hq] at HSM
  clear hq
  go_wp2_with fail
  refine (HSM.out).mono ?_
  rintro en v12 ⟨rfl, hb⟩
  have HB12 := Lib.hid (HB11.out.trans (hb.mono HB11.out.size))
  have LA_12 := Lib.hid (LA_11.out.later hb)
  have LB_12 := Lib.hid (LB_11.out.later hb)
  have LC_12 := Lib.hid (LC_11.out.later hb)
  have LJ_12 := Lib.hid (LJ_11.out.later hb)
  have LH_12 := Lib.hid (LH_11.out.later hb)
  clear hb 
  clear HSM
  go_wp2_with fail
  refine (join_any _ _ _ _ _ _ _ VA.out VA.out LA_12.out LA_12.out).mono ?_
  rintro en v13 ⟨aI, pI, lI, rfl, ht, hc, hb⟩
  have HB13 := Lib.hid (HB12.out.trans (hb.mono HB12.out.size))
  have LA_13 := Lib.hid (LA_12.out.later hb)
  have LB_13 := Lib.hid (LB_12.out.later hb)
  have LC_13 := Lib.hid (LC_12.out.later hb)
  have LJ_13 := Lib.hid (LJ_12.out.later hb)
  have LI_13 := Lib.hid hc
  clear hb hc
  have TI := Lib.hid ht
  have qI := LI_13.out.1
  have rI := LI_13.out.2.1
  clear ht
  have hq : sameC lI la = true := told_one TI.out (Ow.told_self VA.out) fun k _ _ => Ow.joinO_self _
  have HSM := Lib.hid (same_any _ _ _ _ lI la _ LI_13.out LA_13.out)
  rw [hq] at HSM
  clear hq
  go_wp2_with fail
  refine (HSM.out).mono ?_
  rintro en v14 ⟨rfl, hb⟩
  have HB14 := Lib.hid (HB13.out.trans (hb.mono HB13.out.size))
  have LA_14 := Lib.hid (LA_13.out.later hb)
  have LB_14 := Lib.hid (LB_13.out.later hb)
  have LC_14 := Lib.hid (LC_13.out.later hb)
  have LJ_14 := Lib.hid (LJ_13.out.later hb)
  have LI_14 := Lib.hid (LI_13.out.later hb)
  clear hb 
  clear HSM
  go_wp2_with fail
  refine (awake_any _).mono ?_
  rintro en v15 ⟨rfl, hb⟩
  have HB15 := Lib.hid (HB14.out.trans (hb.mono HB14.out.size))
  have LA_15 := Lib.hid (LA_14.out.later hb)
  have LB_15 := Lib.hid (LB_14.out.later hb)
  have LC_15 := Lib.hid (LC_14.out.later hb)
  have LJ_15 := Lib.hid (LJ_14.out.later hb)
  have LI_15 := Lib.hid (LI_14.out.later hb)
  clear hb 
  go_wp2
  go_ret
  exact ⟨rfl, HB15.out⟩

set_option maxRecDepth 100000 in
theorem lifted (os : Os) (started : os.Started) (H : Type) (enc : TypeId × Value → H) :
    ReturnsInHanded {} Try.checked os 5 .any (Rows.claimsJoinSpec.pre6 enc Try.prog Try.f5 Rows.claimsJoinRow.domain false) (Rows.claimsJoinSpec.post enc Try.prog Try.f5 false true false false) := by
  refine returnsInHanded_of_change (C := Try.checked) own started (by kernel_rfl) Try.func5
    (ChangeSpec.witness6 (enc := enc) (C := Try.checked) false ⟨#[], #[.slice none 0 0, .slice none 0 0, .slice none 0 0], []⟩ 8 (by kernel_rfl) (by kernel_rfl) (by kernel_rfl) (by kernel_rfl)) ?_
  intro W base args ds gs before hval0 hW hcnd _
  have hval : ∀ (j : Nat) t v, Try.f5.params[j]? = some t → args[j]? = some v → Value.okWide Try.prog W .any base t v := hval0
  have hW' := hW
  obtain ⟨p, q, hA0, hV, rfl, hfz, hnd⟩ := hW
  have hA : DataW.TrodAll enc Try.prog W 0 (fun _ => true) true Try.f5.params.toList args.toList ds p := hA0
  rw [Try.params5] at hA hval
  obtain ⟨v0, vs0, d0, ds0, p0, q0, hargs, rfl, rfl, h0, r0⟩ := trodAll_cons hA
  obtain ⟨v1, vs1, d1, ds1, p1, q1, rfl, rfl, rfl, h1, r1⟩ := trodAll_cons r0
  obtain ⟨v2, vs2, d2, ds2, p2, q2, rfl, rfl, rfl, h2, r2⟩ := trodAll_cons r1
  obtain ⟨rfl, rfl, rfl⟩ := trodAll_nil r2
  obtain rfl : args = #[v0, v1, v2] := by cases args; simp_all
  obtain ⟨rfl, rfl⟩ := trodVars_none hV
  obtain ⟨a0, len0, cap0, rfl⟩ := okWide_slice Try.underlying39 (hval 0 39 v0 rfl rfl)
  have k0 := h0
  have lt0 : ∀ x ∈ p0, x.block < W.heap.size := by obtain ⟨m, hm⟩ := k0; exact DataW.trod_lt m _ _ _ hm
  obtain ⟨z0, rfl, w0⟩ : ∃ l : List Int, len0 = l.length ∧ U16s W a0 cap0 l := by
    obtain ⟨fuel, hf⟩ := h0
    exact open_u16s hf
  obtain ⟨a1, len1, cap1, rfl⟩ := okWide_slice Try.underlying39 (hval 1 39 v1 rfl rfl)
  have k1 := h1
  have lt1 : ∀ x ∈ p1, x.block < W.heap.size := by obtain ⟨m, hm⟩ := k1; exact DataW.trod_lt m _ _ _ hm
  obtain ⟨z1, rfl, w1⟩ : ∃ l : List Int, len1 = l.length ∧ U16s W a1 cap1 l := by
    obtain ⟨fuel, hf⟩ := h1
    exact open_u16s hf
  obtain ⟨a2, len2, cap2, rfl⟩ := okWide_slice Try.underlying39 (hval 2 39 v2 rfl rfl)
  have k2 := h2
  have lt2 : ∀ x ∈ p2, x.block < W.heap.size := by obtain ⟨m, hm⟩ := k2; exact DataW.trod_lt m _ _ _ hm
  obtain ⟨z2, rfl, w2⟩ : ∃ l : List Int, len2 = l.length ∧ U16s W a2 cap2 l := by
    obtain ⟨fuel, hf⟩ := h2
    exact open_u16s hf
  clear hA0 hval0
  refine (walk a0 cap0 z0 a1 cap1 z1 a2 cap2 z2 W w0 w1 w2).mono fun e W' ⟨he, bel⟩ => ?_
  subst he
  exact ⟨_, rfl, _, _, _, [], _, [], hW', trodAll_mk1 (shut_bool Try.underlying4 _), (trodAll_cons_mk (Below.trod laidOut (by kernel_rfl) (of_decide_eq_true (by kernel_rfl)) k0 bel lt0) (trodAll_cons_mk (Below.trod laidOut (by kernel_rfl) (of_decide_eq_true (by kernel_rfl)) k1 bel lt1) (trodAll_cons_mk (Below.trod laidOut (by kernel_rfl) (of_decide_eq_true (by kernel_rfl)) k2 bel lt2) trodAll_mk0))), rfl, bel.frame _, fun h => by cases h⟩

theorem over : Rows.claimsJoinRow.holds Try.pinned (OpenSpec.ofChange Rows.claimsJoinSpec) :=
  OpenClaim.holds_of_wide 5 Try.f5 rfl rfl rfl rfl rfl rfl rfl ⟨rfl, rfl, rfl, rfl, rfl⟩ rfl rfl rfl rfl rfl (by kernel_rfl) Try.func5 (by kernel_rfl)
    (of_decide_eq_true (by kernel_rfl)) (by unfold Func.isWrapper; first | (rw [if_pos (by decide +kernel)]; kernel_rfl) | (rw [if_neg (by decide +kernel)]; exact ⟨rfl, rfl⟩))
    (fun os started H enc _ => lifted os started H enc)

theorem proved : Rows.ClaimsJoinSaid := over
#print axioms proved
end Go.Proofs.Ytchladbjhodkoaa.claimsJoin
