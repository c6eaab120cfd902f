/- For all lists of numbers, every node and every slot the law ClaimsGiven returns true and leaves the lists as they were. No condition. -/
import Derived.Test.YtchladbjhodkoaaRows
import Derived.Test.YtchladbjhodkoaaOwAwake
import Derived.Test.YtchladbjhodkoaaOwMake
import Derived.Test.YtchladbjhodkoaaOwOwned
import Derived.Test.YtchladbjhodkoaaSpMix1
import Derived.ProofKit
import Derived.OpenShut
import Derived.ShutString
import Derived.SliceStrings
import Derived.ChangeOld
namespace Go.Proofs.Ytchladbjhodkoaa.claimsGiven
open Go.ChangeShapes Go.WideShapes Go.ChangeAt Go.RowKit
open Go.ChangeMaps (open_string shut_string)
set_option linter.unusedVariables false

theorem own : ownKnob Try.prog.godebug = none := by kernel_rfl
theorem laidOut : laidOutB Try.prog = true := by kernel_rfl

theorem wf_u8' {z : Int} (h : (Lit.int .u8 z).wf = true) : 0 ≤ z ∧ z ≤ 255 := by
  unfold Lit.wf at h
  simp only [Bool.and_eq_true, decide_eq_true_eq] at h
  exact h

/-- what a newer node was given stays its own, joined with what was known. -/
theorem given_join {la lg : List Ow.C} {s : List Sp.S} {n k : Int} (hs : SmallE la) (hg : Ow.Told (giveF la s n 10) lg 16384) (h0 : 0 ≤ k) (h1 : k < 16384) : Ow.joinO (Ow.own lg k) (Ow.own la k) = giveF la s n 10 k := by
  rw [hg.2.2 k h0 h1]
  unfold giveF
  by_cases h : Sp.hasB s k = true
  · rw [if_pos h]
    cases ho : Ow.own la k with
    | none => rfl
    | some o =>
      have := hs k o ho
      simp only [Ow.joinO]
      rw [if_neg (by omega)]
  · rw [if_neg h]
    exact Ow.joinO_self _

theorem has_owned {l : List Ow.C} {n k : Int} (h0 : 0 ≤ k) (h1 : k < 16384) {e : Int} (h : Ow.own l k = some (n, e)) : Sp.hasB (ownedL l n) k = true := by
  obtain ⟨c, hc, hi, he⟩ := Ow.own_some h
  rw [Ow.inC_iff] at hi
  simp only [Prod.mk.injEq] at he
  refine Sp.hasB_iff.2 ⟨h0, h1, (c.f, c.t), List.mem_map.2 ⟨c, List.mem_filter.2 ⟨hc, by simpa using he.1.symm⟩, rfl⟩, hi⟩

/-- nothing of what was given is not owned. -/
theorem given_owned {la lg : List Ow.C} {s : List Sp.S} {n : Int} (hg : Ow.Told (giveF la s n 10) lg 16384) : Sp.mixS 1 s (Sp.mixS 0 (ownedL lg n) []) = [] := by
  have h := Sp.mixS_spec 1 s (Sp.mixS 0 (ownedL lg n) [])
  refine Sp.Valid.unique h.1 ⟨by simp, List.Pairwise.nil⟩ fun k => ?_
  rw [h.2, (Sp.mixS_spec 0 (ownedL lg n) []).2]
  have e0 : Sp.hasB ([] : List Sp.S) k = false := rfl
  by_cases hk : 0 ≤ k ∧ k < 16384
  · by_cases hh : Sp.hasB s k = true
    · have ho : Ow.own lg k = some (n, 10) := by rw [hg.2.2 k hk.1 hk.2, giveF, if_pos hh]
      rw [hh, has_owned hk.1 hk.2 ho, e0]
      simp [Sp.cnd, hk]
    · have : Sp.hasB s k = false := by simpa using hh
      rw [this, e0]
      simp [Sp.cnd]
  · rw [e0]
    simp [hk]

set_option maxRecDepth 100000 in
set_option maxHeartbeats 8000000 in
theorem walk (a : Option Addr) (cap : Nat) (aS : List Int) (b : Option Addr) (capb : Nat) (bS : List Int) (x3 x4 : Int) (w : World) (hA : U16s w a cap aS) (hB : U16s w b capb bS) (w3 : (Lit.int .u8 x3).wf = true) (w4 : (Lit.int .u16 x4).wf = true) :
    Calls Try.prog 6 #[.slice a aS.length cap, .slice b bS.length capb, .int .u8 x3, .int .u16 x4] w fun e w' => e = .returned (.bool true) ∧ Below w.heap.size w w' := by
  have l1 := hA.1
  have l2 := hA.2.1
  have l3 := hB.1
  have l4 := hB.2.1
  by_cases h1 : (60 : Int) < (aS.length : Int)
  · skip
    clear hA hB w3 w4
    go_enter Try.func6, Try.ntmps6
    go_wp2_with (go_at_call 9; refine (awake_any _).mono ?_; rintro e w1 ⟨rfl, hb⟩; have HB := Lib.hid hb; clear hb)
    go_ret
    exact ⟨rfl, HB.out⟩
  by_cases h2 : (30 : Int) < (bS.length : Int)
  · skip
    clear hA hB w3 w4
    go_enter Try.func6, Try.ntmps6
    go_wp2_with (go_at_call 9; refine (awake_any _).mono ?_; rintro e w1 ⟨rfl, hb⟩; have HB := Lib.hid hb; clear hb)
    go_ret
    exact ⟨rfl, HB.out⟩
  have UA := Lib.hid hA
  have UB := Lib.hid hB
  have n1 : aS.length ≤ 1000 := by omega
  have n2 : bS.length ≤ 1000 := by omega
  obtain ⟨b3, b3'⟩ := wf_u8' w3
  obtain ⟨b4, b4'⟩ := wf_u16' w4
  have e3 : IntKind.i64.wrap x3 = x3 := IntWalk.i64_in _ (by omega)
  have e4 : IntKind.i64.wrap x4 = x4 := IntWalk.i64_in _ (by omega)
  have hn : 0 ≤ x3 % 8 ∧ x3 % 8 < 8 ∧ (1 : Int) ≤ 10 ∧ (10 : Int) ≤ 9007199254740992 := by omega
  have hk0 : 0 ≤ x4 % 16384 := by omega
  have hk1 : x4 % 16384 < 16384 := by omega
  have hml := mkS_len bS
  have hml2 : (mkS bS).length ≤ 100000 := by omega
  have hml3 : (mkS bS).length ≤ 1000 := by omega
  have MKS := Lib.hid (fun w' h => make_any b capb bS w' n2 h)
  obtain ⟨sl, hsl⟩ : ∃ sl, mkS bS = sl := ⟨_, rfl⟩
  rw [hsl] at MKS hml2 hml3
  clear hA hB w3 w4 hml hsl
  go_enter Try.func6, Try.ntmps6
  go_wp2_with fail
  refine (makeC_any _ _ _ _ n1 UA.out).mono ?_
  rintro en v1 ⟨a1, p1, la, rfl, va, hc, hb⟩
  have HB1 := Lib.hid hb
  have LUA_1 := Lib.hid (UA.out.later hb)
  have LUB_1 := Lib.hid (UB.out.later hb)
  have LA_1 := Lib.hid hc
  clear hb hc
  have VA := Lib.hid va
  clear va
  go_wp2_with fail
  refine (MKS.out _ LUB_1.out).mono ?_
  rintro en v2 ⟨a2, p2, rfl, hs, hb⟩
  have HB2 := Lib.hid (HB1.out.trans (hb.mono HB1.out.size))
  have LUB_2 := Lib.hid (LUB_1.out.later hb)
  have LA_2 := Lib.hid (LA_1.out.later hb)
  have LS_2 := Lib.hid hs
  clear hb hs
  have HG := Lib.hid (fun w' h1 h2 => give_any a1 a2 p1 p2 la sl (x3 % 8) 10 w' hn VA.out.1 hml2 h1 h2)
  clear hn
  go_wp2_with fail
  refine (HG.out _ LA_2.out LS_2.out).mono ?_
  rintro en v3 ⟨a3, p3, lg, rfl, ht, hc, hb⟩
  have HB3 := Lib.hid (HB2.out.trans (hb.mono HB2.out.size))
  have LA_3 := Lib.hid (LA_2.out.later hb)
  have LS_3 := Lib.hid (LS_2.out.later hb)
  have LG_3 := Lib.hid hc
  clear hb hc
  have TG := Lib.hid ht
  clear ht HG MKS
  have gl := TG.out.1.len
  have q3 := LG_3.out.1
  have r3 := LG_3.out.2.1
  have HO1 := Lib.hid (fun w' h => of_any a3 p3 lg (x4 % 16384) w' h TG.out.1)
  have HO2 := Lib.hid (fun w' h => of_any a1 p1 la (x4 % 16384) w' h VA.out.1)
  have hgk := TG.out.2.2 _ hk0 hk1
  unfold giveF at hgk
  have HJ := Lib.hid (fun w' h1 h2 => join_any a3 a1 p3 p1 lg la w' TG.out.1 VA.out.1 h1 h2)
  have HJP := Lib.hid (fun l (hj : Ow.Told _ l 16384) => told_one hj TG.out fun k h0 h1 => given_join VA.out.2 TG.out h0 h1)
  have HWN := Lib.hid (fun w' h => owned_any a3 p3 lg (x3 % 8) w' (by omega) h)
  have hmx := given_owned TG.out
  have HHAS := Lib.hid (fun w' h => refHas_any a2 p2 sl (x4 % 16384) w' h)
  have s1 := LS_3.out.1
  have HOWL : Hid (sl.length + (Sp.mixS 0 (ownedL lg (x3 % 8)) []).length ≤ 100000) := Lib.hid (by have := owned_short TG.out.1 (x3 % 8); omega)
  generalize x3 % 8 = n at *
  generalize x4 % 16384 = k at *
  clear b3 b3' b4 b4' e3 e4
  by_cases hh : Sp.hasB sl k = true
  · rw [if_pos hh] at hgk
    rw [hh] at HHAS
    rw [hgk] at HO1
    have ez : (Ow.zo (some ((n : Int), (10 : Int)))).1 = n ∧ (Ow.zo (some ((n : Int), (10 : Int)))).2 = 10 ∧ (some ((n : Int), (10 : Int))).isSome = true := ⟨rfl, rfl, rfl⟩
    rw [ez.1, ez.2.1, ez.2.2] at HO1
    obtain ⟨wn, we, wb, hw⟩ : ∃ wn we wb, (Ow.zo (Ow.own la k)).1 = wn ∧ (Ow.zo (Ow.own la k)).2 = we ∧ (Ow.own la k).isSome = wb := ⟨_, _, _, rfl, rfl, rfl⟩
    rw [hw.1, hw.2.1, hw.2.2] at HO2
    clear hgk hh ez hw
    go_wp2_with fail
    refine (HO1.out _ LG_3.out).mono ?_
    rintro en v4 ⟨rfl, hb⟩
    have HB4 := Lib.hid (HB3.out.trans (hb.mono HB3.out.size))
    have LA_4 := Lib.hid (LA_3.out.later hb)
    have LS_4 := Lib.hid (LS_3.out.later hb)
    have LG_4 := Lib.hid (LG_3.out.later hb)
    clear hb 
    go_wp2_with fail
    refine (HO2.out _ LA_4.out).mono ?_
    rintro en v5 ⟨rfl, hb⟩
    have HB5 := Lib.hid (HB4.out.trans (hb.mono HB4.out.size))
    have LA_5 := Lib.hid (LA_4.out.later hb)
    have LS_5 := Lib.hid (LS_4.out.later hb)
    have LG_5 := Lib.hid (LG_4.out.later hb)
    clear hb 
    go_wp2_with fail
    refine (HHAS.out _ LS_5.out).mono ?_
    rintro en vh1 ⟨rfl, rfl⟩
    go_wp2_with fail
    refine (HHAS.out _ LS_5.out).mono ?_
    rintro en vh2 ⟨rfl, rfl⟩
    go_wp2_with fail
    refine (HJ.out _ LG_5.out LA_5.out).mono ?_
    rintro en v6 ⟨aj, pj, lj, rfl, ht, hc, hb⟩
    have HB6 := Lib.hid (HB5.out.trans (hb.mono HB5.out.size))
    have LA_6 := Lib.hid (LA_5.out.later hb)
    have LS_6 := Lib.hid (LS_5.out.later hb)
    have LG_6 := Lib.hid (LG_5.out.later hb)
    have LJ_6 := Lib.hid hc
    clear hb hc
    have hq := HJP.out lj ht
    have HSM := Lib.hid (same_any _ _ _ _ lj lg _ LJ_6.out LG_6.out)
    rw [hq] at HSM
    have qj := LJ_6.out.1
    have rj := LJ_6.out.2.1
    clear hq ht
    go_wp2_with fail
    refine (HSM.out).mono ?_
    rintro en v7 ⟨rfl, hb⟩
    have HB7 := Lib.hid (HB6.out.trans (hb.mono HB6.out.size))
    have LA_7 := Lib.hid (LA_6.out.later hb)
    have LS_7 := Lib.hid (LS_6.out.later hb)
    have LG_7 := Lib.hid (LG_6.out.later hb)
    have LJ_7 := Lib.hid (LJ_6.out.later hb)
    clear hb 
    clear HSM
    go_wp2_with fail
    refine (HWN.out _ LG_7.out).mono ?_
    rintro en v8 ⟨aw, pw, rfl, hs, hb⟩
    have HB8 := Lib.hid (HB7.out.trans (hb.mono HB7.out.size))
    have LA_8 := Lib.hid (LA_7.out.later hb)
    have LS_8 := Lib.hid (LS_7.out.later hb)
    have LG_8 := Lib.hid (LG_7.out.later hb)
    have LJ_8 := Lib.hid (LJ_7.out.later hb)
    have LW_8 := Lib.hid hs
    clear hb hs
    have HMX := Lib.hid (refMix_1 _ _ _ _ sl _ _ HOWL.out LS_8.out LW_8.out)
    unfold Mixed at HMX
    rw [hmx] at HMX
    go_wp2_with fail
    refine (HMX.out).mono ?_
    rintro en v9 ⟨ax, px, rfl, hs, hb⟩
    have HB9 := Lib.hid (HB8.out.trans (hb.mono HB8.out.size))
    have LA_9 := Lib.hid (LA_8.out.later hb)
    have LS_9 := Lib.hid (LS_8.out.later hb)
    have LG_9 := Lib.hid (LG_8.out.later hb)
    have LJ_9 := Lib.hid (LJ_8.out.later hb)
    have LW_9 := Lib.hid (LW_8.out.later hb)
    have LX_9 := Lib.hid hs
    clear hb hs
    clear HMX
    go_wp2_with fail
    refine (awake_any _).mono ?_
    rintro en v10 ⟨rfl, hb⟩
    have HB10 := Lib.hid (HB9.out.trans (hb.mono HB9.out.size))
    have LA_10 := Lib.hid (LA_9.out.later hb)
    have LS_10 := Lib.hid (LS_9.out.later hb)
    have LG_10 := Lib.hid (LG_9.out.later hb)
    have LJ_10 := Lib.hid (LJ_9.out.later hb)
    have LW_10 := Lib.hid (LW_9.out.later hb)
    have LX_10 := Lib.hid (LX_9.out.later hb)
    clear hb 
    go_wp2
    go_ret
    exact ⟨rfl, HB10.out⟩
  · have hf : Sp.hasB sl k = false := by simpa using hh
    rw [if_neg hh] at hgk
    rw [hf] at HHAS
    rw [hgk] at HO1
    obtain ⟨wn, we, wb, hw⟩ : ∃ wn we wb, (Ow.zo (Ow.own la k)).1 = wn ∧ (Ow.zo (Ow.own la k)).2 = we ∧ (Ow.own la k).isSome = wb := ⟨_, _, _, rfl, rfl, rfl⟩
    rw [hw.1, hw.2.1, hw.2.2] at HO2
    rw [hw.1, hw.2.1, hw.2.2] at HO1
    have bb : (wb != wb) = false := by simp
    clear hgk hh hf hw
    go_wp2_with fail
    refine (HO1.out _ LG_3.out).mono ?_
    rintro en v4 ⟨rfl, hb⟩
    have HB4 := Lib.hid (HB3.out.trans (hb.mono HB3.out.size))
    have LA_4 := Lib.hid (LA_3.out.later hb)
    have LS_4 := Lib.hid (LS_3.out.later hb)
    have LG_4 := Lib.hid (LG_3.out.later hb)
    clear hb 
    go_wp2_with fail
    refine (HO2.out _ LA_4.out).mono ?_
    rintro en v5 ⟨rfl, hb⟩
    have HB5 := Lib.hid (HB4.out.trans (hb.mono HB4.out.size))
    have LA_5 := Lib.hid (LA_4.out.later hb)
    have LS_5 := Lib.hid (LS_4.out.later hb)
    have LG_5 := Lib.hid (LG_4.out.later hb)
    clear hb 
    go_wp2_with fail
    refine (HHAS.out _ LS_5.out).mono ?_
    rintro en vh1 ⟨rfl, rfl⟩
    go_wp2_with fail
    refine (HHAS.out _ LS_5.out).mono ?_
    rintro en vh2 ⟨rfl, rfl⟩
    go_wp2_with fail
    refine (HJ.out _ LG_5.out LA_5.out).mono ?_
    rintro en v6 ⟨aj, pj, lj, rfl, ht, hc, hb⟩
    have HB6 := Lib.hid (HB5.out.trans (hb.mono HB5.out.size))
    have LA_6 := Lib.hid (LA_5.out.later hb)
    have LS_6 := Lib.hid (LS_5.out.later hb)
    have LG_6 := Lib.hid (LG_5.out.later hb)
    have LJ_6 := Lib.hid hc
    clear hb hc
    have hq := HJP.out lj ht
    have HSM := Lib.hid (same_any _ _ _ _ lj lg _ LJ_6.out LG_6.out)
    rw [hq] at HSM
    have qj := LJ_6.out.1
    have rj := LJ_6.out.2.1
    clear hq ht
    go_wp2_with fail
    refine (HSM.out).mono ?_
    rintro en v7 ⟨rfl, hb⟩
    have HB7 := Lib.hid (HB6.out.trans (hb.mono HB6.out.size))
    have LA_7 := Lib.hid (LA_6.out.later hb)
    have LS_7 := Lib.hid (LS_6.out.later hb)
    have LG_7 := Lib.hid (LG_6.out.later hb)
    have LJ_7 := Lib.hid (LJ_6.out.later hb)
    clear hb 
    clear HSM
    go_wp2_with fail
    refine (HWN.out _ LG_7.out).mono ?_
    rintro en v8 ⟨aw, pw, rfl, hs, hb⟩
    have HB8 := Lib.hid (HB7.out.trans (hb.mono HB7.out.size))
    have LA_8 := Lib.hid (LA_7.out.later hb)
    have LS_8 := Lib.hid (LS_7.out.later hb)
    have LG_8 := Lib.hid (LG_7.out.later hb)
    have LJ_8 := Lib.hid (LJ_7.out.later hb)
    have LW_8 := Lib.hid hs
    clear hb hs
    have HMX := Lib.hid (refMix_1 _ _ _ _ sl _ _ HOWL.out LS_8.out LW_8.out)
    unfold Mixed at HMX
    rw [hmx] at HMX
    go_wp2_with fail
    refine (HMX.out).mono ?_
    rintro en v9 ⟨ax, px, rfl, hs, hb⟩
    have HB9 := Lib.hid (HB8.out.trans (hb.mono HB8.out.size))
    have LA_9 := Lib.hid (LA_8.out.later hb)
    have LS_9 := Lib.hid (LS_8.out.later hb)
    have LG_9 := Lib.hid (LG_8.out.later hb)
    have LJ_9 := Lib.hid (LJ_8.out.later hb)
    have LW_9 := Lib.hid (LW_8.out.later hb)
    have LX_9 := Lib.hid hs
    clear hb hs
    clear HMX
    go_wp2_with fail
    refine (awake_any _).mono ?_
    rintro en v10 ⟨rfl, hb⟩
    have HB10 := Lib.hid (HB9.out.trans (hb.mono HB9.out.size))
    have LA_10 := Lib.hid (LA_9.out.later hb)
    have LS_10 := Lib.hid (LS_9.out.later hb)
    have LG_10 := Lib.hid (LG_9.out.later hb)
    have LJ_10 := Lib.hid (LJ_9.out.later hb)
    have LW_10 := Lib.hid (LW_9.out.later hb)
    have LX_10 := Lib.hid (LX_9.out.later hb)
    clear hb 
    go_wp2
    go_ret
    exact ⟨rfl, HB10.out⟩

set_option maxRecDepth 100000 in
theorem lifted (os : Os) (started : os.Started) (H : Type) (enc : TypeId × Value → H) :
    ReturnsInHanded {} Try.checked os 6 .any (Rows.claimsGivenSpec.pre6 enc Try.prog Try.f6 Rows.claimsGivenRow.domain false) (Rows.claimsGivenSpec.post enc Try.prog Try.f6 false true false false) := by
  refine returnsInHanded_of_change (C := Try.checked) own started (by kernel_rfl) Try.func6
    (ChangeSpec.witness6 (enc := enc) (C := Try.checked) false ⟨#[], #[.slice none 0 0, .slice none 0 0, .int .u8 0, .int .u16 0], []⟩ 8 (by kernel_rfl) (by kernel_rfl) (by kernel_rfl) (by kernel_rfl)) ?_
  intro W base args ds gs before hval0 hW hcnd _
  have hval : ∀ (j : Nat) t v, Try.f6.params[j]? = some t → args[j]? = some v → Value.okWide Try.prog W .any base t v := hval0
  have hW' := hW
  obtain ⟨p, q, hA0, hV, rfl, hfz, hnd⟩ := hW
  have hA : DataW.TrodAll enc Try.prog W 0 (fun _ => true) true Try.f6.params.toList args.toList ds p := hA0
  rw [Try.params6] at hA hval
  obtain ⟨v0, vs0, d0, ds0, p0, q0, hargs, rfl, rfl, h0, r0⟩ := trodAll_cons hA
  obtain ⟨v1, vs1, d1, ds1, p1, q1, rfl, rfl, rfl, h1, r1⟩ := trodAll_cons r0
  obtain ⟨v2, vs2, d2, ds2, p2, q2, rfl, rfl, rfl, h2, r2⟩ := trodAll_cons r1
  obtain ⟨v3, vs3, d3, ds3, p3, q3, rfl, rfl, rfl, h3, r3⟩ := trodAll_cons r2
  obtain ⟨rfl, rfl, rfl⟩ := trodAll_nil r3
  obtain rfl : args = #[v0, v1, v2, v3] := by cases args; simp_all
  obtain ⟨rfl, rfl⟩ := trodVars_none hV
  obtain ⟨a0, len0, cap0, rfl⟩ := okWide_slice Try.underlying39 (hval 0 39 v0 rfl rfl)
  have k0 := h0
  have lt0 : ∀ x ∈ p0, x.block < W.heap.size := by obtain ⟨m, hm⟩ := k0; exact DataW.trod_lt m _ _ _ hm
  obtain ⟨z0, rfl, w0⟩ : ∃ l : List Int, len0 = l.length ∧ U16s W a0 cap0 l := by
    obtain ⟨fuel, hf⟩ := h0
    exact open_u16s hf
  obtain ⟨a1, len1, cap1, rfl⟩ := okWide_slice Try.underlying39 (hval 1 39 v1 rfl rfl)
  have k1 := h1
  have lt1 : ∀ x ∈ p1, x.block < W.heap.size := by obtain ⟨m, hm⟩ := k1; exact DataW.trod_lt m _ _ _ hm
  obtain ⟨z1, rfl, w1⟩ : ∃ l : List Int, len1 = l.length ∧ U16s W a1 cap1 l := by
    obtain ⟨fuel, hf⟩ := h1
    exact open_u16s hf
  obtain ⟨a2, rfl, rfl, rfl, w2⟩ := open_int Try.underlying5 (hval 2 5 v2 rfl rfl) h2
  obtain ⟨a3, rfl, rfl, rfl, w3⟩ := open_int Try.underlying40 (hval 3 40 v3 rfl rfl) h3
  clear hA0 hval0
  refine (walk a0 cap0 z0 a1 cap1 z1 a2 a3 W w0 w1 w2 w3).mono fun e W' ⟨he, bel⟩ => ?_
  subst he
  exact ⟨_, rfl, _, _, _, [], _, [], hW', trodAll_mk1 (shut_bool Try.underlying4 _), (trodAll_cons_mk (Below.trod laidOut (by kernel_rfl) (of_decide_eq_true (by kernel_rfl)) k0 bel lt0) (trodAll_cons_mk (Below.trod laidOut (by kernel_rfl) (of_decide_eq_true (by kernel_rfl)) k1 bel lt1) (trodAll_cons_mk (shut_int Try.underlying5 w2) (trodAll_cons_mk (shut_int Try.underlying40 w3) trodAll_mk0)))), rfl, bel.frame _, fun h => by cases h⟩

theorem over : Rows.claimsGivenRow.holds Try.pinned (OpenSpec.ofChange Rows.claimsGivenSpec) :=
  OpenClaim.holds_of_wide 6 Try.f6 rfl rfl rfl rfl rfl rfl rfl ⟨rfl, rfl, rfl, rfl, rfl⟩ rfl rfl rfl rfl rfl (by kernel_rfl) Try.func6 (by kernel_rfl)
    (of_decide_eq_true (by kernel_rfl)) (by unfold Func.isWrapper; first | (rw [if_pos (by decide +kernel)]; kernel_rfl) | (rw [if_neg (by decide +kernel)]; exact ⟨rfl, rfl⟩))
    (fun os started H enc _ => lifted os started H enc)

theorem proved : Rows.ClaimsGivenSaid := over
#print axioms proved
end Go.Proofs.Ytchladbjhodkoaa.claimsGiven
