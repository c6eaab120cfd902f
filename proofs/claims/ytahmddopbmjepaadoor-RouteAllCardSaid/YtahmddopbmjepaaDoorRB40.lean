/- The walk of the law RouteAll (14.1). -/
import Derived.Test.YtahmddopbmjepaaDoorRB33
import Derived.Test.YtahmddopbmjepaaDoorRB34
import Derived.Test.YtahmddopbmjepaaDoorRB35
import Derived.Test.YtahmddopbmjepaaDoorRB38
import Derived.Test.YtahmddopbmjepaaDoorRB39
namespace Go.Proofs.YtahmddopbmjepaaDoor
open Go.RowKit Go.Shelf
attribute [local go_sem] Oper.semAt_some
set_option linter.unusedVariables false
set_option linter.unusedSimpArgs false

set_option maxRecDepth 100000 in
set_option maxHeartbeats 8000000 in
theorem routeAll_go (n : NV) (cl : List Ow.C) (ps : List Lp) (mv : List Rt.Mv) (asking : Bool) (aK : Option Addr) (cK : Nat) (ks : List (List UInt8)) (w : World) (hE : Env w)
    (idr : -9223372036854775808 ≤ n.id ∧ n.id ≤ 9223372036854775807) (msr : -9223372036854775808 ≤ n.ms ∧ n.ms ≤ 9223372036854775807)
    (hcl : n.cl.n = cl.length) (hC : Cls w n.cl.a n.cl.c cl) (hdb : n.db.n = ps.length) (hP : Prs w n.db.a n.db.c ps) (hmv : n.mv.n = mv.length) (hM : Mvs w n.mv.a n.mv.c mv) (hK : Wds w aK cK ks) :
    Calls Tryd.prog 3 #[.agg n.cells, .slice aK ks.length cK, .bool asking] w fun e w' => e = .returned (.bool true) ∧ Below w.heap.size w w' := by
  have HA : Hid (∀ W, Below w.heap.size w W → Calls Tryd.prog 11 #[] W fun e w' => e = .returned (.bool true) ∧ Below W.heap.size W w') := Lib.hid fun W hb => awake_any W (hE.later hb)
  obtain ⟨w1, hw1⟩ : ∃ w1, w.alloc (.cells n.cells 36) = w1 := ⟨_, rfl⟩
  have hx1 : NdBox w1 w.heap.size n := by rw [← hw1]; exact NdBox.new w n
  have hB1 : Below w.heap.size w w1 := by rw [← hw1]; exact (Below.refl _ w).alloc (Nat.le_refl _) _
  have hlt1 : w.heap.size < w1.heap.size := by rw [← hw1]; simp
  have HX := Lib.hid hx1
  have HB := Lib.hid hB1
  obtain ⟨-, -, z5, z6, z7⟩ := hx1.few
  have hclI : (cl.length : Int) ≤ 9223372036854775807 := by have := hC.1; have := hC.2.1; omega
  have hmvI : (mv.length : Int) ≤ 9223372036854775807 := by have := hM.len; omega
  have hkI : (ks.length : Int) ≤ 9223372036854775807 := by have := hK.1; have := hK.2.1; omega
  by_cases c1 : 40 < cl.length
  · have d1 : decide ((40 : Int) < (cl.length : Int)) = true := decide_eq_true (by omega)
    clear hE hC hP hM hK hx1 hB1
    go_enter Tryd.func3, Tryd.ntmps3
    go_wp2_with fail
    refine (HA.out _ HB.out).mono ?_
    rintro e w9 ⟨rfl, hb⟩
    have HB9 := Lib.hid (HB.out.trans (hb.mono HB.out.size))
    clear hb
    go_wp2_with fail
    go_ret
    exact ⟨rfl, HB9.out⟩
  have d1 : decide ((40 : Int) < (cl.length : Int)) = false := decide_eq_false (by omega)
  by_cases c2 : 20 < mv.length
  · have d2 : decide ((20 : Int) < (mv.length : Int)) = true := decide_eq_true (by omega)
    clear hE hC hP hM hK hx1 hB1
    go_enter Tryd.func3, Tryd.ntmps3
    go_wp2_with fail
    refine (HA.out _ HB.out).mono ?_
    rintro e w9 ⟨rfl, hb⟩
    have HB9 := Lib.hid (HB.out.trans (hb.mono HB.out.size))
    clear hb
    go_wp2_with fail
    go_ret
    exact ⟨rfl, HB9.out⟩
  have d2 : decide ((20 : Int) < (mv.length : Int)) = false := decide_eq_false (by omega)
  by_cases c3 : 20 < ks.length
  · have d3 : decide ((20 : Int) < (ks.length : Int)) = true := decide_eq_true (by omega)
    clear hE hC hP hM hK hx1 hB1
    go_enter Tryd.func3, Tryd.ntmps3
    go_wp2_with fail
    refine (HA.out _ HB.out).mono ?_
    rintro e w9 ⟨rfl, hb⟩
    have HB9 := Lib.hid (HB.out.trans (hb.mono HB.out.size))
    clear hb
    go_wp2_with fail
    go_ret
    exact ⟨rfl, HB9.out⟩
  have d3 : decide ((20 : Int) < (ks.length : Int)) = false := decide_eq_false (by omega)
  have hG := dbGreat_any n.db.a n.db.c ps w1 (hP.later hB1)
  cases hg : greatPs ps with
  | true =>
    rw [hg] at hG
    have HG := Lib.hid hG
    clear hE hC hP hM hK hx1 hB1 hG hg
    go_enter Tryd.func3, Tryd.ntmps3
    go_wp2_with fail
    refine (HG.out).mono ?_
    rintro e w2 ⟨rfl, hb⟩
    have HB2 := Lib.hid (HB.out.trans (hb.mono HB.out.size))
    clear hb
    go_wp2_with fail
    refine (HA.out _ HB2.out).mono ?_
    rintro e w9 ⟨rfl, hb⟩
    have HB9 := Lib.hid (HB2.out.trans (hb.mono HB2.out.size))
    clear hb
    go_wp2_with fail
    go_ret
    exact ⟨rfl, HB9.out⟩
  | false =>
  rw [hg] at hG
  have HG := Lib.hid hG
  obtain ⟨hpl, hsm⟩ := rtNotGreatP hg
  clear hG hg
  have HMC : Hid (∀ W, Below w.heap.size w W → Calls Tryd.prog 9 #[.slice n.cl.a cl.length n.cl.c] W fun e w' => e = .returned (.bool (Ow.mayB cl)) ∧ Below W.heap.size W w') := Lib.hid fun W hb => refMayC_any n.cl.a n.cl.c cl W (hC.later hb)
  cases hmc : Ow.mayB cl with
  | false =>
    rw [hmc] at HMC
    clear hE hC hP hM hK hx1 hB1
    go_enter Tryd.func3, Tryd.ntmps3
    go_wp2_with fail
    refine (HG.out).mono ?_
    rintro e w2 ⟨rfl, hb⟩
    have HB2 := Lib.hid (HB.out.trans (hb.mono HB.out.size))
    obtain ⟨-, -, y5, y6, y7⟩ := (HX.out.later hb hlt1).few
    clear hb
    go_wp2_with fail
    refine (HMC.out _ HB2.out).mono ?_
    rintro e w3 ⟨rfl, hb⟩
    have HB2 := Lib.hid (HB2.out.trans (hb.mono HB2.out.size))
    clear hb
    go_wp2_with fail
    refine (HA.out _ HB2.out).mono ?_
    rintro e w9 ⟨rfl, hb⟩
    have HB9 := Lib.hid (HB2.out.trans (hb.mono HB2.out.size))
    clear hb
    go_wp2_with fail
    go_ret
    exact ⟨rfl, HB9.out⟩
  | true =>
  have hvl := Ow.mayB_iff.1 hmc
  rw [hmc] at HMC
  have HMS : Hid (∀ W, Below w.heap.size w W → Calls Tryd.prog 10 #[.slice n.db.a ps.length n.db.c] W fun e w' => e = .returned (.bool (Db.mayS (ps.map Lp.p))) ∧ Below W.heap.size W w') := Lib.hid fun W hb => maySpace_any n.db.a n.db.c ps W (hP.later hb) (by omega)
  cases hms : Db.mayS (ps.map Lp.p) with
  | false =>
    rw [hms] at HMS
    clear hE hC hP hM hK hx1 hB1
    go_enter Tryd.func3, Tryd.ntmps3
    go_wp2_with fail
    refine (HG.out).mono ?_
    rintro e w2 ⟨rfl, hb⟩
    have HB2 := Lib.hid (HB.out.trans (hb.mono HB.out.size))
    have hb2 := hb
    obtain ⟨-, -, y5, y6, y7⟩ := (HX.out.later hb hlt1).few
    clear hb
    go_wp2_with fail
    refine (HMC.out _ HB2.out).mono ?_
    rintro e w3 ⟨rfl, hb⟩
    have hb3 := hb2.trans (hb.mono hb2.size)
    have HB2 := Lib.hid (HB2.out.trans (hb.mono HB2.out.size))
    obtain ⟨-, -, x5, x6, x7⟩ := (HX.out.later hb3 hlt1).few
    clear hb y5 y6 y7 hb2
    go_wp2_with fail
    refine (HMS.out _ HB2.out).mono ?_
    rintro e w4 ⟨rfl, hb⟩
    have hbX := hb3.trans (hb.mono hb3.size)
    have HB2 := Lib.hid (HB2.out.trans (hb.mono HB2.out.size))
    clear hb x5 x6 x7 hb3
    go_wp2_with fail
    refine (HA.out _ HB2.out).mono ?_
    rintro e w9 ⟨rfl, hb⟩
    have HB9 := Lib.hid (HB2.out.trans (hb.mono HB2.out.size))
    clear hb
    go_wp2_with fail
    go_ret
    exact ⟨rfl, HB9.out⟩
  | true =>
  rw [hms] at HMS
  have hasc := rtAscL (rtMayS_inv hms).1
  obtain ⟨d, hd⟩ : ∃ d : Rt.Nd, (⟨n.id, n.ms, cl, fun k => (rawL ps k).isSome, mv⟩ : Rt.Nd) = d := ⟨_, rfl⟩
  have hN : Node w n d ps := by rw [← hd]; exact ⟨rfl, rfl, idr, msr, hcl, hC, hdb, hP, rfl, hmv, hM⟩
  have hdcl : d.cl = cl := by rw [← hd]
  have hdmv : d.mv = mv := by rw [← hd]
  obtain ⟨R, hR⟩ : ∃ R, Rt.decideS d ks asking = R := ⟨_, rfl⟩
  have HDV : Hid (∀ W, Below w.heap.size w W → Calls Tryd.prog 12 #[.agg n.cells, .slice aK ks.length cK, .bool asking] W fun e w' => e = .returned (.string ⟨R.toArray⟩) ∧ Below W.heap.size W w') := Lib.hid fun W hb => by
    rw [← hR]; exact decide_any n d ps asking aK cK ks W (hE.later hb) (hN.later hb) (by omega) hasc hsm (by rw [hdmv]; omega) (by rw [hdcl]; exact hvl) (hK.later hb) (by omega)
  have HRF : Hid (∀ W, Below w.heap.size w W → Calls Tryd.prog 13 #[.agg n.cells, .slice aK ks.length cK, .bool asking] W fun e w' => e = .returned (.string ⟨R.toArray⟩) ∧ Below W.heap.size W w') := Lib.hid fun W hb => by
    rw [← hR]; exact refDecide_any n d ps asking aK cK ks W (hN.later hb) (by omega) (by rw [hdmv]; omega) (by rw [hdcl]; exact hvl) (hK.later hb) (by omega)
  have HK := Lib.hid hK
  have hcK := hK.1
  have hcM := hK.2.1
  clear hE hC hP hM hK hx1 hB1 hN hR hdcl hdmv hd hasc hsm hvl hms hmc
  go_enter Tryd.func3, Tryd.ntmps3
  go_wp2_with fail
  refine (HG.out).mono ?_
  rintro e w2 ⟨rfl, hb⟩
  have HB2 := Lib.hid (HB.out.trans (hb.mono HB.out.size))
  have hb2 := hb
  obtain ⟨-, -, y5, y6, y7⟩ := (HX.out.later hb hlt1).few
  clear hb
  go_wp2_with fail
  refine (HMC.out _ HB2.out).mono ?_
  rintro e w3 ⟨rfl, hb⟩
  have hb3 := hb2.trans (hb.mono hb2.size)
  have HB2 := Lib.hid (HB2.out.trans (hb.mono HB2.out.size))
  obtain ⟨-, -, x5, x6, x7⟩ := (HX.out.later hb3 hlt1).few
  clear hb y5 y6 y7 hb2
  go_wp2_with fail
  refine (HMS.out _ HB2.out).mono ?_
  rintro e w4 ⟨rfl, hb⟩
  have hbX := hb3.trans (hb.mono hb3.size)
  have HB2 := Lib.hid (HB2.out.trans (hb.mono HB2.out.size))
  clear hb x5 x6 x7 hb3
  have HB5 := HB2
  have HX5 := Lib.hid (HX.out.later hbX hlt1)
  clear hbX
  go_wp2_with fail
  go_loop [7] (fun i => ∃ k : Nat, k ≤ ks.length ∧ i = .int .i64 k) (fun i => ks.length - (intOf i).toNat)
  case atStart => exact ⟨0, by omega, rfl⟩
  case round =>
    obtain ⟨k, hk, rfl⟩ := hrel
    by_cases hlt : k < ks.length
    · obtain ⟨b, off, rfl, hbb, hc⟩ := HK.out.get (by omega)
      have q0 := (HB5.out.cell (p := ⟨b, off + k, none⟩) hbb).trans (hc k hlt)
      have hlen := HK.out.len (k := k)
      obtain ⟨y, hy⟩ : ∃ y, ks.getD k [] = y := ⟨_, rfl⟩
      rw [hy] at q0 hlen
      have k0 : (0 : Int) ≤ (k : Int) := by omega
      have k1 : (k : Int) < (ks.length : Int) := by omega
      clear hc hy
      by_cases hbig : 200 < y.length
      · have e1 : decide ((200 : Int) < (y.length : Int)) = true := decide_eq_true (by omega)
        go_wp2_with fail
        refine (HA.out _ HB5.out).mono ?_
        rintro e w8 ⟨rfl, hb⟩
        have HB8 := Lib.hid (HB5.out.trans (hb.mono HB5.out.size))
        clear hb
        go_wp2_with fail
        go_ret
        exact ⟨rfl, HB8.out⟩
      · have e1 : decide ((200 : Int) < (y.length : Int)) = false := decide_eq_false (by omega)
        go_wp2_with fail
        go_round
        case rel => exact ⟨k + 1, by omega, by go_num⟩
        case measure => simp [intOf]; omega
    · have k1 : ¬ (k : Int) < (ks.length : Int) := by omega
      go_upto_region 8 with (fail)
      obtain ⟨wq, hwq⟩ : ∃ wq, w4.drew = wq := ⟨_, rfl⟩
      have HBq := Lib.hid (show Below w.heap.size w wq by rw [← hwq]; exact HB5.out.drew)
      have HS0 : NdBox wq w.heap.size n := by rw [← hwq]; exact HX5.out
      have hrr : (R == R) = true := by simp
      refine wp_region_L (S := fun W => NdBox W w.heap.size n) (f := 12) (by kernel_rfl) ?_
      rw [hwq]
      clear hwq
      refine wpAnyL_take (i := 0) (some 54) (v := .agg n.cells) rfl rfl (by kernel_rfl) (by kernel_rfl) (by kernel_rfl) (by kernel_rfl) (fun _ _ _ h => h) (by rfl) (fun W hS => ?_) HS0 ?_
      · exact exec_load_node hS rfl rfl
      try simp only [Act.put, List.setIfInBounds_toArray, List.set_cons_zero, List.set_cons_succ]
      refine wpAnyL_take (i := 1) (some 55) (v := .slice aK ks.length cK) rfl rfl (by kernel_rfl) (by kernel_rfl) (by kernel_rfl) (by kernel_rfl) (fun _ _ _ h => h) (by rfl) (fun W hS => ?_) HS0 ?_
      · go_simp
      try simp only [Act.put, List.setIfInBounds_toArray, List.set_cons_zero, List.set_cons_succ]
      refine wpAnyL_take (i := 2) (some 56) (v := .bool asking) rfl rfl (by kernel_rfl) (by kernel_rfl) (by kernel_rfl) (by kernel_rfl) (fun _ _ _ h => h) (by rfl) (fun W hS => ?_) HS0 ?_
      · go_simp
      try simp only [Act.put, List.setIfInBounds_toArray, List.set_cons_zero, List.set_cons_succ]
      refine wpAnyL_take (i := 4) (some 58) (v := .agg n.cells) rfl rfl (by kernel_rfl) (by kernel_rfl) (by kernel_rfl) (by kernel_rfl) (fun _ _ _ h => h) (by rfl) (fun W hS => ?_) HS0 ?_
      · exact exec_load_node hS rfl rfl
      try simp only [Act.put, List.setIfInBounds_toArray, List.set_cons_zero, List.set_cons_succ]
      refine wpAnyL_take (i := 5) (some 59) (v := .slice aK ks.length cK) rfl rfl (by kernel_rfl) (by kernel_rfl) (by kernel_rfl) (by kernel_rfl) (fun _ _ _ h => h) (by rfl) (fun W hS => ?_) HS0 ?_
      · go_simp
      try simp only [Act.put, List.setIfInBounds_toArray, List.set_cons_zero, List.set_cons_succ]
      refine wpAnyL_take (i := 6) (some 60) (v := .bool asking) rfl rfl (by kernel_rfl) (by kernel_rfl) (by kernel_rfl) (by kernel_rfl) (fun _ _ _ h => h) (by rfl) (fun W hS => ?_) HS0 ?_
      · go_simp
      try simp only [Act.put, List.setIfInBounds_toArray, List.set_cons_zero, List.set_cons_succ]
      refine wpAnyL_one (j := 3) (by kernel_rfl) rfl (by rfl) (fun K hK => ?_)
      go_simp
      with_reducible refine (HDV.out _ HBq.out).mono ?_
      rintro e v1 ⟨rfl, hb⟩
      have HBv1 := Lib.hid (HBq.out.trans (hb.mono HBq.out.size))
      have HS1 := (HS0).later hb (Array.getElem?_eq_some_iff.1 HS0).1
      clear hb
      refine hK _ _ (fun _ => HS1) ?_
      clear hK K
      try simp only [Act.put, List.setIfInBounds_toArray, List.set_cons_zero, List.set_cons_succ]
      refine wpAnyL_one (j := 7) (by kernel_rfl) rfl (by rfl) (fun K hK => ?_)
      go_simp
      with_reducible refine (HRF.out _ HBv1.out).mono ?_
      rintro e v2 ⟨rfl, hb⟩
      have HBv2 := Lib.hid (HBv1.out.trans (hb.mono HBv1.out.size))
      have HS2 := (HS1).later hb (Array.getElem?_eq_some_iff.1 HS1).1
      clear hb
      refine hK _ _ (fun _ => HS2) ?_
      clear hK K
      try simp only [Act.put, List.setIfInBounds_toArray, List.set_cons_zero, List.set_cons_succ]
      refine wpAnyL_take (i := 8) (some 62) (v := .bool true) rfl rfl (by kernel_rfl) (by kernel_rfl) (by kernel_rfl) (by kernel_rfl) (fun _ _ _ h => h) (by rfl) (fun W hS => ?_) HS2 ?_
      · go_simp
      try simp only [Act.put, List.setIfInBounds_toArray, List.set_cons_zero, List.set_cons_succ]
      refine wpAnyL_take (i := 9) (some 63) (v := .bool true) rfl rfl (by kernel_rfl) (by kernel_rfl) (by kernel_rfl) (by kernel_rfl) (fun _ _ _ h => h) (by rfl) (fun W hS => ?_) HS2 ?_
      · go_simp
      try simp only [Act.put, List.setIfInBounds_toArray, List.set_cons_zero, List.set_cons_succ]
      refine wpAnyL_one (j := 10) (by kernel_rfl) rfl (by rfl) (fun K hK => ?_)
      go_simp
      with_reducible refine (HA.out _ HBv2.out).mono ?_
      rintro e v3 ⟨rfl, hb⟩
      have HBv3 := Lib.hid (HBv2.out.trans (hb.mono HBv2.out.size))
      have HS3 := (HS2).later hb (Array.getElem?_eq_some_iff.1 HS2).1
      clear hb
      refine hK _ _ (fun _ => HS3) ?_
      clear hK K
      try simp only [Act.put, List.setIfInBounds_toArray, List.set_cons_zero, List.set_cons_succ]
      refine wpAnyL_take (i := 11) (some 65) (v := .bool true) rfl rfl (by kernel_rfl) (by kernel_rfl) (by kernel_rfl) (by kernel_rfl) (fun _ _ _ h => h) (by rfl) (fun W hS => ?_) HS3 ?_
      · go_simp
      try simp only [Act.put, List.setIfInBounds_toArray, List.set_cons_zero, List.set_cons_succ]
      refine wpAnyL_one (j := 12) (by kernel_rfl) rfl (by rfl) (fun K hK => ?_)
      go_simp
      refine hK _ _ (fun h => (h rfl).elim) ?_
      clear hK K
      try simp only [Act.put, List.setIfInBounds_toArray, List.set_cons_zero, List.set_cons_succ]
      refine wpAnyL_done (by kernel_rfl) ?_ _
      go_wp2_with fail
      go_ret
      exact ⟨rfl, HBv3.out⟩
end Go.Proofs.YtahmddopbmjepaaDoor
