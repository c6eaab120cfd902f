/- For every list of numbers and every four bytes the law ClaimsNewer returns true and leaves the list as it was. No condition. -/
import Derived.Test.YtchladbjhodkoaaRows
import Derived.Test.YtchladbjhodkoaaOwAwake
import Derived.Test.YtchladbjhodkoaaMake
import Derived.ProofKit
import Derived.OpenShut
import Derived.ShutString
import Derived.SliceStrings
import Derived.ChangeOld
namespace Go.Proofs.Ytchladbjhodkoaa.claimsNewer
open Go.ChangeShapes Go.WideShapes Go.ChangeAt Go.RowKit
open Go.ChangeMaps (open_string shut_string)
set_option linter.unusedVariables false

theorem own : ownKnob Try.prog.godebug = none := by kernel_rfl
theorem laidOut : laidOutB Try.prog = true := by kernel_rfl

theorem wf_u8' {z : Int} (h : (Lit.int .u8 z).wf = true) : 0 ≤ z ∧ z ≤ 255 := by
  unfold Lit.wf at h
  simp only [Bool.and_eq_true, decide_eq_true_eq] at h
  exact h

theorem give_nil_own {s : List Sp.S} {n e k : Int} : giveF [] s n e k = if Sp.hasB s k then some (n, e) else none := rfl

/-- of two claims to the same slots the newer one holds. -/
theorem join_newer {lp lq l : List Ow.C} {s : List Sp.S} {n m x y : Int} (hp : Ow.Told (giveF [] s n x) lp 16384) (hq : Ow.Told (giveF [] s m y) lq 16384) (hj : Ow.Told (fun k => Ow.joinO (Ow.own lp k) (Ow.own lq k)) l 16384) :
    ((x < y ∨ (x = y ∧ n < m)) → sameC l lq = true) ∧ (¬ (x < y ∨ (x = y ∧ n < m)) → sameC l lp = true) := by
  constructor
  · intro h
    refine told_one hj hq fun k h0 h1 => ?_
    rw [hp.2.2 k h0 h1, hq.2.2 k h0 h1, give_nil_own, give_nil_own]
    cases Sp.hasB s k with
    | false => rfl
    | true => simp [Ow.joinO, h]
  · intro h
    refine told_one hj hp fun k h0 h1 => ?_
    rw [hp.2.2 k h0 h1, hq.2.2 k h0 h1, give_nil_own, give_nil_own]
    cases Sp.hasB s k with
    | false => rfl
    | true => simp [Ow.joinO, h]

theorem join_newer' {lp lq l : List Ow.C} {s : List Sp.S} {n m x y : Int} (hp : Ow.Told (giveF [] s n x) lp 16384) (hq : Ow.Told (giveF [] s m y) lq 16384) (hj : Ow.Told (fun k => Ow.joinO (Ow.own lq k) (Ow.own lp k)) l 16384) :
    ((x < y ∨ (x = y ∧ n < m)) → sameC l lq = true) ∧ (¬ (x < y ∨ (x = y ∧ n < m)) → sameC l lp = true) :=
  join_newer hp hq ⟨hj.1, hj.2.1, fun k h0 h1 => by rw [hj.2.2 k h0 h1]; exact Ow.joinO_comm _ _⟩

set_option maxRecDepth 100000 in
set_option maxHeartbeats 8000000 in
theorem walk (a : Option Addr) (cap : Nat) (ns : List Int) (x1 x2 x3 x4 : Int) (w : World) (hS : U16s w a cap ns) (w1 : (Lit.int .u8 x1).wf = true) (w2 : (Lit.int .u8 x2).wf = true) (w3 : (Lit.int .u8 x3).wf = true) (w4 : (Lit.int .u8 x4).wf = true) :
    Calls Try.prog 8 #[.slice a ns.length cap, .int .u8 x1, .int .u8 x2, .int .u8 x3, .int .u8 x4] w fun e w' => e = .returned (.bool true) ∧ Below w.heap.size w w' := by
  have hlen := hS.1
  have hcap := hS.2.1
  by_cases hbig : 20 < ns.length
  · clear hS w1 w2 w3 w4
    have hI : (20 : Int) < (ns.length : Int) := by omega
    go_enter Try.func8, Try.ntmps8
    go_wp2_with (go_at_call 9; refine (awake_any _).mono ?_; rintro e w1 ⟨rfl, hb⟩; have HB := Lib.hid hb; clear hb)
    go_ret
    exact ⟨rfl, HB.out⟩
  · by_cases hsm : ns.length < 2
    · clear hS w1 w2 w3 w4
      have hI : ¬ (20 : Int) < (ns.length : Int) := by omega
      have hJ : (ns.length : Int) < 2 := by omega
      go_enter Try.func8, Try.ntmps8
      go_wp2_with (go_at_call 9; refine (awake_any _).mono ?_; rintro e w1 ⟨rfl, hb⟩; have HB := Lib.hid hb; clear hb)
      go_ret
      exact ⟨rfl, HB.out⟩
    · have hI : ¬ (20 : Int) < (ns.length : Int) := by omega
      have hJ : ¬ (ns.length : Int) < 2 := by omega
      have HM := Lib.hid (make_any a cap ns w (by omega) hS)
      have hml := mkS_len ns
      obtain ⟨b1, b1'⟩ := wf_u8' w1
      obtain ⟨b2, b2'⟩ := wf_u8' w2
      obtain ⟨b3, b3'⟩ := wf_u8' w3
      obtain ⟨b4, b4'⟩ := wf_u8' w4
      have e1 : IntKind.i64.wrap x1 = x1 := IntWalk.i64_in _ (by omega)
      have e2 : IntKind.i64.wrap x2 = x2 := IntWalk.i64_in _ (by omega)
      have e3 : IntKind.i64.wrap x3 = x3 := IntWalk.i64_in _ (by omega)
      have e4 : IntKind.i64.wrap x4 = x4 := IntWalk.i64_in _ (by omega)
      have e5 : IntKind.i64.wrap (1 + x3 % 4) = 1 + x3 % 4 := IntWalk.i64_in _ (by omega)
      have e6 : IntKind.i64.wrap (1 + x4 % 4) = 1 + x4 % 4 := IntWalk.i64_in _ (by omega)
      have hn : 0 ≤ x1 % 8 ∧ x1 % 8 < 8 ∧ 1 ≤ 1 + x3 % 4 ∧ 1 + x3 % 4 ≤ 9007199254740992 := by omega
      have hm : 0 ≤ x2 % 8 ∧ x2 % 8 < 8 ∧ 1 ≤ 1 + x4 % 4 ∧ 1 + x4 % 4 ≤ 9007199254740992 := by omega
      clear hS w1 w2 w3 w4 hbig hsm
      have hml2 : (mkS ns).length ≤ 100000 := by omega
      obtain ⟨sl, hsl⟩ : ∃ sl, mkS ns = sl := ⟨_, rfl⟩
      rw [hsl] at HM hml2
      clear hsl hml
      have HG1 := Lib.hid (fun w' a' cap' h => give_any none a' 0 cap' [] sl (x1 % 8) (1 + x3 % 4) w' hn trivial hml2 (cls_nil _) h)
      have HG2 := Lib.hid (fun w' a' cap' h => give_any none a' 0 cap' [] sl (x2 % 8) (1 + x4 % 4) w' hm trivial hml2 (cls_nil _) h)
      clear hn hm
      go_enter Try.func8, Try.ntmps8
      go_wp2_with (go_at_call 26; refine HM.out.mono ?_; rintro e v1 ⟨aS, cS, rfl, hs, hb⟩; have HS := Lib.hid hs; have HB1 := Lib.hid hb; clear hs hb)
      refine (HG1.out _ _ _ HS.out).mono ?_
      rintro e v2 ⟨ap, cp, lp, rfl, ht, hc, hb⟩
      have HTP := Lib.hid ht
      have HCP := Lib.hid hc
      have HB2 := Lib.hid (HB1.out.trans (hb.mono HB1.out.size))
      have HS2 := Lib.hid (HS.out.later hb)
      clear ht hc hb
      go_wp2_with fail
      refine (HG2.out _ _ _ HS2.out).mono ?_
      rintro e v3 ⟨aq, cq, lq, rfl, ht, hc, hb⟩
      have HTQ := Lib.hid ht
      have HCQ := Lib.hid hc
      have HCP3 := Lib.hid (HCP.out.later hb)
      have HB3 := Lib.hid (HB2.out.trans (hb.mono HB2.out.size))
      clear ht hc hb
      have HJ1 := Lib.hid (fun w' h1 h2 => join_any ap aq cp cq lp lq w' HTP.out.1 HTQ.out.1 h1 h2)
      have HJ2 := Lib.hid (fun w' h1 h2 => join_any aq ap cq cp lq lp w' HTQ.out.1 HTP.out.1 h1 h2)
      have HN1 := Lib.hid (fun l hj => join_newer (l := l) HTP.out HTQ.out hj)
      have HN2 := Lib.hid (fun l hj => join_newer' (l := l) HTP.out HTQ.out hj)
      have p1 := HCP.out.1
      have p2 := HCP.out.2.1
      have p3 := HCQ.out.1
      have p4 := HCQ.out.2.1
      generalize 1 + x3 % 4 = x at *
      generalize 1 + x4 % 4 = y at *
      generalize x1 % 8 = n at *
      generalize x2 % 8 = m at *
      clear b1 b1' b2 b2' b3 b3' b4 b4' e1 e2 e3 e4 e5 e6
      by_cases c1 : x < y
      · have hpos : x < y ∨ (x = y ∧ n < m) := .inl c1
        have HPOS := Lib.hid hpos
        clear hpos
        go_wp2_with fail
        refine (HJ1.out _ HCP3.out HCQ.out).mono ?_
        rintro e v4 ⟨aj, cj, lj, rfl, hj, hc, hb⟩
        have HSM := Lib.hid (same_any aj aq cj cq lj lq v4 hc (HCQ.out.later hb))
        have hq := (HN1.out lj hj).1 HPOS.out
        rw [hq] at HSM
        have HB4 := Lib.hid (HB3.out.trans (hb.mono HB3.out.size))
        have HCP4 := Lib.hid (HCP3.out.later hb)
        have HCQ4 := Lib.hid (HCQ.out.later hb)
        have j1 := hc.1
        have j2 := hc.2.1
        clear hq hj hc hb
        go_wp2_with fail
        refine HSM.out.mono ?_
        rintro e v5 ⟨rfl, hb⟩
        have HB5 := Lib.hid (HB4.out.trans (hb.mono HB4.out.size))
        have HCP5 := Lib.hid (HCP4.out.later hb)
        have HCQ5 := Lib.hid (HCQ4.out.later hb)
        clear hb HSM
        go_wp2_with fail
        refine (HJ2.out _ HCQ5.out HCP5.out).mono ?_
        rintro e v6 ⟨ak, ck, lk, rfl, hj, hc, hb⟩
        have HSM := Lib.hid (same_any ak aq ck cq lk lq v6 hc (HCQ5.out.later hb))
        have hq := (HN2.out lk hj).1 HPOS.out
        rw [hq] at HSM
        have HB6 := Lib.hid (HB5.out.trans (hb.mono HB5.out.size))
        have j3 := hc.1
        have j4 := hc.2.1
        clear hq hj hc hb
        go_wp2_with fail
        refine HSM.out.mono ?_
        rintro e v7 ⟨rfl, hb⟩
        have HB7 := Lib.hid (HB6.out.trans (hb.mono HB6.out.size))
        clear hb HSM
        go_wp2_with fail
        refine (awake_any _).mono ?_
        rintro e v8 ⟨rfl, hb⟩
        have HB8 := Lib.hid (HB7.out.trans (hb.mono HB7.out.size))
        clear hb
        go_wp2
        go_ret
        exact ⟨rfl, HB8.out⟩
      · by_cases c2 : y = x
        · by_cases c3 : n < m
          · have HPOS : Hid (x < y ∨ (x = y ∧ n < m)) := Lib.hid (.inr ⟨c2.symm, c3⟩)
            go_wp2_with fail
            refine (HJ1.out _ HCP3.out HCQ.out).mono ?_
            rintro e v4 ⟨aj, cj, lj, rfl, hj, hc, hb⟩
            have HSM := Lib.hid (same_any aj aq cj cq lj lq v4 hc (HCQ.out.later hb))
            have hq := (HN1.out lj hj).1 HPOS.out
            rw [hq] at HSM
            have HB4 := Lib.hid (HB3.out.trans (hb.mono HB3.out.size))
            have HCP4 := Lib.hid (HCP3.out.later hb)
            have HCQ4 := Lib.hid (HCQ.out.later hb)
            have j1 := hc.1
            have j2 := hc.2.1
            clear hq hj hc hb
            go_wp2_with fail
            refine HSM.out.mono ?_
            rintro e v5 ⟨rfl, hb⟩
            have HB5 := Lib.hid (HB4.out.trans (hb.mono HB4.out.size))
            have HCP5 := Lib.hid (HCP4.out.later hb)
            have HCQ5 := Lib.hid (HCQ4.out.later hb)
            clear hb HSM
            go_wp2_with fail
            refine (HJ2.out _ HCQ5.out HCP5.out).mono ?_
            rintro e v6 ⟨ak, ck, lk, rfl, hj, hc, hb⟩
            have HSM := Lib.hid (same_any ak aq ck cq lk lq v6 hc (HCQ5.out.later hb))
            have hq := (HN2.out lk hj).1 HPOS.out
            rw [hq] at HSM
            have HB6 := Lib.hid (HB5.out.trans (hb.mono HB5.out.size))
            have j3 := hc.1
            have j4 := hc.2.1
            clear hq hj hc hb
            go_wp2_with fail
            refine HSM.out.mono ?_
            rintro e v7 ⟨rfl, hb⟩
            have HB7 := Lib.hid (HB6.out.trans (hb.mono HB6.out.size))
            clear hb HSM
            go_wp2_with fail
            refine (awake_any _).mono ?_
            rintro e v8 ⟨rfl, hb⟩
            have HB8 := Lib.hid (HB7.out.trans (hb.mono HB7.out.size))
            clear hb
            go_wp2
            go_ret
            exact ⟨rfl, HB8.out⟩
          · have HPOS : Hid (¬ (x < y ∨ (x = y ∧ n < m))) := Lib.hid (by omega)
            go_wp2_with fail
            refine (HJ1.out _ HCP3.out HCQ.out).mono ?_
            rintro e v4 ⟨aj, cj, lj, rfl, hj, hc, hb⟩
            have HSM := Lib.hid (same_any aj ap cj cp lj lp v4 hc (HCP3.out.later hb))
            have hq := (HN1.out lj hj).2 HPOS.out
            rw [hq] at HSM
            have HB4 := Lib.hid (HB3.out.trans (hb.mono HB3.out.size))
            have HCP4 := Lib.hid (HCP3.out.later hb)
            have HCQ4 := Lib.hid (HCQ.out.later hb)
            have j1 := hc.1
            have j2 := hc.2.1
            clear hq hj hc hb
            go_wp2_with fail
            refine HSM.out.mono ?_
            rintro e v5 ⟨rfl, hb⟩
            have HB5 := Lib.hid (HB4.out.trans (hb.mono HB4.out.size))
            have HCP5 := Lib.hid (HCP4.out.later hb)
            have HCQ5 := Lib.hid (HCQ4.out.later hb)
            clear hb HSM
            go_wp2_with fail
            refine (HJ2.out _ HCQ5.out HCP5.out).mono ?_
            rintro e v6 ⟨ak, ck, lk, rfl, hj, hc, hb⟩
            have HSM := Lib.hid (same_any ak ap ck cp lk lp v6 hc (HCP5.out.later hb))
            have hq := (HN2.out lk hj).2 HPOS.out
            rw [hq] at HSM
            have HB6 := Lib.hid (HB5.out.trans (hb.mono HB5.out.size))
            have j3 := hc.1
            have j4 := hc.2.1
            clear hq hj hc hb
            go_wp2_with fail
            refine HSM.out.mono ?_
            rintro e v7 ⟨rfl, hb⟩
            have HB7 := Lib.hid (HB6.out.trans (hb.mono HB6.out.size))
            clear hb HSM
            go_wp2_with fail
            refine (awake_any _).mono ?_
            rintro e v8 ⟨rfl, hb⟩
            have HB8 := Lib.hid (HB7.out.trans (hb.mono HB7.out.size))
            clear hb
            go_wp2
            go_ret
            exact ⟨rfl, HB8.out⟩
        · have HPOS : Hid (¬ (x < y ∨ (x = y ∧ n < m))) := Lib.hid (by omega)
          go_wp2_with fail
          refine (HJ1.out _ HCP3.out HCQ.out).mono ?_
          rintro e v4 ⟨aj, cj, lj, rfl, hj, hc, hb⟩
          have HSM := Lib.hid (same_any aj ap cj cp lj lp v4 hc (HCP3.out.later hb))
          have hq := (HN1.out lj hj).2 HPOS.out
          rw [hq] at HSM
          have HB4 := Lib.hid (HB3.out.trans (hb.mono HB3.out.size))
          have HCP4 := Lib.hid (HCP3.out.later hb)
          have HCQ4 := Lib.hid (HCQ.out.later hb)
          have j1 := hc.1
          have j2 := hc.2.1
          clear hq hj hc hb
          go_wp2_with fail
          refine HSM.out.mono ?_
          rintro e v5 ⟨rfl, hb⟩
          have HB5 := Lib.hid (HB4.out.trans (hb.mono HB4.out.size))
          have HCP5 := Lib.hid (HCP4.out.later hb)
          have HCQ5 := Lib.hid (HCQ4.out.later hb)
          clear hb HSM
          go_wp2_with fail
          refine (HJ2.out _ HCQ5.out HCP5.out).mono ?_
          rintro e v6 ⟨ak, ck, lk, rfl, hj, hc, hb⟩
          have HSM := Lib.hid (same_any ak ap ck cp lk lp v6 hc (HCP5.out.later hb))
          have hq := (HN2.out lk hj).2 HPOS.out
          rw [hq] at HSM
          have HB6 := Lib.hid (HB5.out.trans (hb.mono HB5.out.size))
          have j3 := hc.1
          have j4 := hc.2.1
          clear hq hj hc hb
          go_wp2_with fail
          refine HSM.out.mono ?_
          rintro e v7 ⟨rfl, hb⟩
          have HB7 := Lib.hid (HB6.out.trans (hb.mono HB6.out.size))
          clear hb HSM
          go_wp2_with fail
          refine (awake_any _).mono ?_
          rintro e v8 ⟨rfl, hb⟩
          have HB8 := Lib.hid (HB7.out.trans (hb.mono HB7.out.size))
          clear hb
          go_wp2
          go_ret
          exact ⟨rfl, HB8.out⟩

set_option maxRecDepth 100000 in
theorem lifted (os : Os) (started : os.Started) (H : Type) (enc : TypeId × Value → H) :
    ReturnsInHanded {} Try.checked os 8 .any (Rows.claimsNewerSpec.pre6 enc Try.prog Try.f8 Rows.claimsNewerRow.domain false) (Rows.claimsNewerSpec.post enc Try.prog Try.f8 false true false false) := by
  refine returnsInHanded_of_change (C := Try.checked) own started (by kernel_rfl) Try.func8
    (ChangeSpec.witness6 (enc := enc) (C := Try.checked) false ⟨#[], #[.slice none 0 0, .int .u8 0, .int .u8 0, .int .u8 0, .int .u8 0], []⟩ 8 (by kernel_rfl) (by kernel_rfl) (by kernel_rfl) (by kernel_rfl)) ?_
  intro W base args ds gs before hval0 hW hcnd _
  have hval : ∀ (j : Nat) t v, Try.f8.params[j]? = some t → args[j]? = some v → Value.okWide Try.prog W .any base t v := hval0
  have hW' := hW
  obtain ⟨p, q, hA0, hV, rfl, hfz, hnd⟩ := hW
  have hA : DataW.TrodAll enc Try.prog W 0 (fun _ => true) true Try.f8.params.toList args.toList ds p := hA0
  rw [Try.params8] at hA hval
  obtain ⟨v0, vs0, d0, ds0, p0, q0, hargs, rfl, rfl, h0, r0⟩ := trodAll_cons hA
  obtain ⟨v1, vs1, d1, ds1, p1, q1, rfl, rfl, rfl, h1, r1⟩ := trodAll_cons r0
  obtain ⟨v2, vs2, d2, ds2, p2, q2, rfl, rfl, rfl, h2, r2⟩ := trodAll_cons r1
  obtain ⟨v3, vs3, d3, ds3, p3, q3, rfl, rfl, rfl, h3, r3⟩ := trodAll_cons r2
  obtain ⟨v4, vs4, d4, ds4, p4, q4, rfl, rfl, rfl, h4, r4⟩ := trodAll_cons r3
  obtain ⟨rfl, rfl, rfl⟩ := trodAll_nil r4
  obtain rfl : args = #[v0, v1, v2, v3, v4] := by cases args; simp_all
  obtain ⟨rfl, rfl⟩ := trodVars_none hV
  obtain ⟨a0, len0, cap0, rfl⟩ := okWide_slice Try.underlying39 (hval 0 39 v0 rfl rfl)
  have k0 := h0
  have lt0 : ∀ x ∈ p0, x.block < W.heap.size := by obtain ⟨m, hm⟩ := k0; exact DataW.trod_lt m _ _ _ hm
  obtain ⟨z0, rfl, w0⟩ : ∃ l : List Int, len0 = l.length ∧ U16s W a0 cap0 l := by
    obtain ⟨fuel, hf⟩ := h0
    exact open_u16s hf
  obtain ⟨a1, rfl, rfl, rfl, w1⟩ := open_int Try.underlying5 (hval 1 5 v1 rfl rfl) h1
  obtain ⟨a2, rfl, rfl, rfl, w2⟩ := open_int Try.underlying5 (hval 2 5 v2 rfl rfl) h2
  obtain ⟨a3, rfl, rfl, rfl, w3⟩ := open_int Try.underlying5 (hval 3 5 v3 rfl rfl) h3
  obtain ⟨a4, rfl, rfl, rfl, w4⟩ := open_int Try.underlying5 (hval 4 5 v4 rfl rfl) h4
  clear hA0 hval0
  refine (walk a0 cap0 z0 a1 a2 a3 a4 W w0 w1 w2 w3 w4).mono fun e W' ⟨he, bel⟩ => ?_
  subst he
  exact ⟨_, rfl, _, _, _, [], _, [], hW', trodAll_mk1 (shut_bool Try.underlying4 _), (trodAll_cons_mk (Below.trod laidOut (by kernel_rfl) (of_decide_eq_true (by kernel_rfl)) k0 bel lt0) (trodAll_cons_mk (shut_int Try.underlying5 w1) (trodAll_cons_mk (shut_int Try.underlying5 w2) (trodAll_cons_mk (shut_int Try.underlying5 w3) (trodAll_cons_mk (shut_int Try.underlying5 w4) trodAll_mk0))))), rfl, bel.frame _, fun h => by cases h⟩

theorem over : Rows.claimsNewerRow.holds Try.pinned (OpenSpec.ofChange Rows.claimsNewerSpec) :=
  OpenClaim.holds_of_wide 8 Try.f8 rfl rfl rfl rfl rfl rfl rfl ⟨rfl, rfl, rfl, rfl, rfl⟩ rfl rfl rfl rfl rfl (by kernel_rfl) Try.func8 (by kernel_rfl)
    (of_decide_eq_true (by kernel_rfl)) (by unfold Func.isWrapper; first | (rw [if_pos (by decide +kernel)]; kernel_rfl) | (rw [if_neg (by decide +kernel)]; exact ⟨rfl, rfl⟩))
    (fun os started H enc _ => lifted os started H enc)

theorem proved : Rows.ClaimsNewerSaid := over
#print axioms proved
end Go.Proofs.Ytchladbjhodkoaa.claimsNewer
