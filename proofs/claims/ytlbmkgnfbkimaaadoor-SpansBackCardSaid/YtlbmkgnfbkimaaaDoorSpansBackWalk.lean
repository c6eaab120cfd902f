/- The walk of SpansBack. -/
import Derived.Test.YtlbmkgnfbkimaaaDoorSpansLawsWalk
import Derived.Test.YtlbmkgnfbkimaaaDoorSpansTextsWalk
import Derived.Test.YtlbmkgnfbkimaaaDoorDevMay
import Derived.Test.YtlbmkgnfbkimaaaDoorDevHas
import Derived.Test.YtlbmkgnfbkimaaaDoorDevTextWalk
import Derived.Test.YtlbmkgnfbkimaaaDoorBackPlain
namespace Go.Proofs.YtlbmkgnfbkimaaaDoor
open Go.RowKit Go.Shelf
attribute [local go_sem] Oper.semAt_some

theorem one_spans (w : World) {k : Int} (h0 : 0 ≤ k) (h1 : k < 16384) : Spans (w.alloc (.cells #[.int .i64 k, .int .i64 k] 39)) (some ⟨w.heap.size, 0, none⟩) 1 [(k, k)] := by
  have hb := World.alloc_heap_new w (.cells #[.int .i64 k, .int .i64 k] 39)
  obtain ⟨c1, c2, -, -⟩ := cells_two hb
  refine ⟨by simp, by simp, fun s hs => ?_, .inr ⟨w.heap.size, 0, rfl, by simp, fun j hj => ?_⟩⟩
  · simp only [List.mem_singleton] at hs
    subst hs
    simp only; omega
  · simp only [List.length_singleton] at hj
    obtain rfl : j = 0 := by omega
    exact ⟨c1, c2⟩

open Classical in
set_option maxRecDepth 100000 in
set_option maxHeartbeats 8000000 in
theorem spansBack_walk (a : Option Addr) (cap : Nat) (ns : List Int) (at_ : Int) (w : World) (hS : U16s w a cap ns) (hat : 0 ≤ at_ ∧ at_ ≤ 65535) (ht : Tab w) :
    Calls Tryd.prog 6 #[.slice a ns.length cap, .int .u16 at_] w fun e w' => e = .returned (.bool true) ∧ Below w.heap.size w w' := by
  have hm : ns.length ≤ 9223372036854775807 := Nat.le_trans hS.1 hS.2.1
  obtain ⟨t0, t1⟩ := hat
  have wt : IntKind.i64.wrap at_ = at_ := IntWalk.i64_in _ (by omega)
  by_cases h : 40 < ns.length
  · go_enter Tryd.func6, Tryd.ntmps6
    go_wp2_with fail
    refine (awake_any _ ht).mono ?_
    rintro e w1 ⟨rfl, hb⟩
    have HB := Lib.hid hb
    clear hb
    go_wp2
    go_ret
    exact ⟨rfl, HB.out⟩
  · have HS := Lib.hid hS
    have HT := Lib.hid ht
    have hla := mkS_len ns
    clear hS ht
    go_enter Tryd.func6, Tryd.ntmps6
    go_wp2_with fail
    refine (make_any a cap ns _ (by omega) HS.out).mono ?_
    rintro e w1 ⟨a1, c1, rfl, hs, hb⟩
    have HB1 := Lib.hid hb
    have H1 := Lib.hid hs
    clear hb hs
    go_wp2_with fail
    refine (callsIn_wide.1 (norm_any a1 c1 _ _ (by omega) H1.out)).mono ?_
    rintro e w2 ⟨a2, c2, rfl, hs, hb⟩
    have HB2 := Lib.hid (HB1.out.trans (hb.mono HB1.out.size))
    have HL := Lib.hid hs
    clear hb hs HB1 H1
    go_wp2_with fail
    refine (make_any a cap ns _ (by omega) (HS.out.later HB2.out)).mono ?_
    rintro e w3 ⟨a3, c3, rfl, hs, hb⟩
    have HB3 := Lib.hid (HB2.out.trans (hb.mono HB2.out.size))
    have HL3 := Lib.hid (HL.out.later hb)
    have H3 := Lib.hid hs
    clear hb hs HB2 HL
    go_wp2_with fail
    refine (callsIn_wide.1 (text_any a3 c3 _ _ (by omega) H3.out (tab_later HT.out HB3.out))).mono ?_
    rintro e w4 ⟨rfl, hb⟩
    have HB4 := Lib.hid (HB3.out.trans (hb.mono HB3.out.size))
    have HL4 := Lib.hid (HL3.out.later hb)
    clear hb HB3 HL3 H3
    have hll := mixS_short 0 (mkS ns) []
    have hv := (Sp.mixS_spec 0 (mkS ns) []).1
    have hself := Sp.self 0 (mkS ns) []
    generalize Sp.mixS 0 (mkS ns) [] = L at *
    simp only [List.length_nil, Nat.add_zero] at hll
    have htl := textTo_bound hv.1 L.length (Nat.le_refl _)
    have hrd := Tx.readD_text hv
    have HV := Lib.hid hv
    have HSELF := Lib.hid hself
    have HRD := Lib.hid hrd
    have htl2 : (textS L).length ≤ 100000 := by
      have : (textS L).length ≤ 12 * L.length := htl
      omega
    clear hv hself hrd htl
    go_wp2_with fail
    refine (callsIn_wide.1 (read_any ⟨(textS L).toArray⟩ w4 htl2)).mono ?_
    rintro e w5 h5
    have h5' : ReadOut w4 (readD (textS L)) e w5 := h5
    rw [HRD.out] at h5'
    obtain ⟨a5, c5, rfl, hs5, hb⟩ := read_spans h5' (by
      intro l h
      simp only [Option.some.injEq] at h
      subst h
      exact ⟨by omega, HV.out⟩)
    have HB5 := Lib.hid (HB4.out.trans (hb.mono HB4.out.size))
    have HL5 := Lib.hid (HL4.out.later hb)
    have HM5 := Lib.hid hs5
    simp only [Option.getD_some, Option.isSome_some] at *
    clear h5 h5' hs5 hb HB4 HL4
    have k0 : 0 ≤ at_ % 16384 := by omega
    have k1 : at_ % 16384 < 16384 := by omega
    have HLO := Lib.hid (HL5.out.later ((Below.refl _ w5).alloc (Nat.le_refl _) (.cells #[.int .i64 (at_ % 16384), .int .i64 (at_ % 16384)] 39)))
    have HMO := Lib.hid (HM5.out.later ((Below.refl _ w5).alloc (Nat.le_refl _) (.cells #[.int .i64 (at_ % 16384), .int .i64 (at_ % 16384)] 39)))
    have HBO := Lib.hid (HB5.out.alloc HB5.out.size (.cells #[.int .i64 (at_ % 16384), .int .i64 (at_ % 16384)] 39))
    have HOO := Lib.hid (one_spans w5 k0 k1)
    clear HL5 HM5 HB5
    go_wp2_with fail
    generalize at_ % 16384 = k at *
    have HONE := Lib.hid (Sp.one_sum k0 k1)
    have HMH := Lib.hid (Sp.more_has (L := L) k0 k1)
    have HLH := Lib.hid (Sp.less_has (L := L) k0 k1)
    have bn := Sp.mix_bound 0 L []
    obtain ⟨cn, hcn⟩ : ∃ cn, sumS (Sp.mixS 0 L []) = cn := ⟨_, rfl⟩
    rw [hcn] at bn
    have HCN := Lib.hid hcn
    have ls1 := mixS_short 0 L [(k, k)]
    have ls2 := mixS_short 1 L [(k, k)]
    simp only [List.length_singleton] at ls1 ls2
    have ew1 : IntKind.i64.wrap (cn - 1) = cn - 1 := IntWalk.i64_in _ (by omega)
    have ew2 : IntKind.i64.wrap (cn + 1) = cn + 1 := IntWalk.i64_in _ (by omega)
    clear hcn
    refine (ChUnion.any a2 (some ⟨w5.heap.size, 0, none⟩) c2 1 L [(k, k)] _ (by simp; omega) HLO.out HOO.out).mono ?_
    rintro e w6 ⟨a6, c6, rfl, hs, hb⟩
    have HB6 := Lib.hid (HBO.out.trans (hb.mono HBO.out.size))
    have HL6 := Lib.hid (HLO.out.later hb)
    have HM6 := Lib.hid (HMO.out.later hb)
    have HO6 := Lib.hid (HOO.out.later hb)
    have HU6 := Lib.hid hs
    clear hb hs HBO HLO HMO HOO
    go_wp2_with fail
    refine (ChMinus.any a2 (some ⟨w5.heap.size, 0, none⟩) c2 1 L [(k, k)] _ (by simp; omega) HL6.out HO6.out).mono ?_
    rintro e w8 ⟨a8, c8, rfl, hs, hb⟩
    have HB8 := Lib.hid (HB6.out.trans (hb.mono HB6.out.size))
    have HL8 := Lib.hid (HL6.out.later hb)
    have HM8 := Lib.hid (HM6.out.later hb)
    have HO8 := Lib.hid (HO6.out.later hb)
    have HU8 := Lib.hid (HU6.out.later hb)
    have HD8 := Lib.hid hs
    clear hb hs HB6 HL6 HM6 HO6 HU6
    go_wp2_with fail
    refine (devMay_any a2 c2 L _ (by omega) HL8.out).mono ?_
    rintro e w9 ⟨rfl, hb⟩
    rw [decide_eq_true HV.out]
    have HB9 := Lib.hid hb
    clear hb
    go_wp2_with fail
    refine (refSame_any a2 a5 c2 c5 L L _ (HL8.out.later HB9.out) (HM8.out.later HB9.out)).mono ?_
    rintro e w10 ⟨rfl, hb⟩
    have HB10 := Lib.hid (HB9.out.trans (hb.mono HB9.out.size))
    clear hb HB9
    go_wp2_with fail
    refine (devHas_any a6 c6 _ k _ (by omega) (HU8.out.later HB10.out)).mono ?_
    rintro e w11 ⟨rfl, hb⟩
    rw [HMH.out]
    have HB11 := Lib.hid (HB10.out.trans (hb.mono HB10.out.size))
    clear hb HB10
    go_wp2_with fail
    refine (devHas_any a8 c8 _ k _ (by omega) (HD8.out.later HB11.out)).mono ?_
    rintro e w12 ⟨rfl, hb⟩
    rw [HLH.out]
    have HB12 := Lib.hid (HB11.out.trans (hb.mono HB11.out.size))
    clear hb HB11
    go_wp2_with fail
    refine (count_is a2 c2 L _ (by omega) (HL8.out.later HB12.out) HCN.out).mono ?_
    rintro e w13 ⟨rfl, hb⟩
    have HB13 := Lib.hid (HB12.out.trans (hb.mono HB12.out.size))
    clear hb HB12
    go_wp2_with fail
    refine (devHas_any a2 c2 L k _ (by omega) (HL8.out.later HB13.out)).mono ?_
    rintro e w14 ⟨rfl, hb⟩
    have HB14 := Lib.hid (HB13.out.trans (hb.mono HB13.out.size))
    clear hb HB13
    cases hk : Sp.hasB L k with
    | true =>
      have HC1 := Lib.hid (show sumS (Sp.mixS 0 (Sp.mixS 0 L [(k, k)]) []) = cn by rw [Sp.self, Sp.sum_union, HCN.out, HONE.out, Sp.both_one k0 k1 hk]; omega)
      have HC2 := Lib.hid (show sumS (Sp.mixS 0 (Sp.mixS 1 L [(k, k)]) []) = cn - 1 by rw [Sp.self, Sp.sum_minus, HCN.out, Sp.both_one k0 k1 hk])
      have HBK := Lib.hid (Sp.back_more hk)
      go_wp2_with fail
      refine (count_is a6 c6 _ _ (by omega) (HU8.out.later HB14.out) HC1.out).mono ?_
      rintro e w15 ⟨rfl, hb⟩
      have HB15 := Lib.hid (HB14.out.trans (hb.mono HB14.out.size))
      clear hb HB14
      go_wp2_with fail
      refine (count_is a8 c8 _ _ (by omega) (HD8.out.later HB15.out) HC2.out).mono ?_
      rintro e w16 ⟨rfl, hb⟩
      have HB16 := Lib.hid (HB15.out.trans (hb.mono HB15.out.size))
      clear hb HB15
      go_wp2_with fail
      refine ((ChUnion.any a8 (some ⟨w5.heap.size, 0, none⟩) c8 1 _ [(k, k)] _ (by simp; omega) (HD8.out.later HB16.out) (HO8.out.later HB16.out)).mono fun e w' h => Mixed.cast HBK.out h).mono ?_
      rintro e w17 ⟨a17, c17, rfl, hs, hb⟩
      rw [HSELF.out] at hs ⊢
      have HB17 := Lib.hid (HB16.out.trans (hb.mono HB16.out.size))
      have HS17 := Lib.hid hs
      clear hb hs HB16
      go_wp2_with fail
      refine (refSame_any a17 a2 c17 c2 L L _ HS17.out (HL8.out.later HB17.out)).mono ?_
      rintro e w18 ⟨rfl, hb⟩
      have HB18 := Lib.hid (HB17.out.trans (hb.mono HB17.out.size))
      have HBW := Lib.hid (HB8.out.trans (HB18.out.mono HB8.out.size))
      clear hb HB17
      go_wp2_with fail
      refine (awake_any _ (tab_later HT.out HBW.out)).mono ?_
      rintro e w19 ⟨rfl, hb⟩
      have HB19 := Lib.hid (HBW.out.trans (hb.mono HBW.out.size))
      clear hb
      go_wp2
      go_ret
      exact ⟨rfl, HB19.out⟩
    | false =>
      have HC1 := Lib.hid (show sumS (Sp.mixS 0 (Sp.mixS 0 L [(k, k)]) []) = cn + 1 by rw [Sp.self, Sp.sum_union, HCN.out, HONE.out, Sp.both_none hk]; omega)
      have HC2 := Lib.hid (show sumS (Sp.mixS 0 (Sp.mixS 1 L [(k, k)]) []) = cn by rw [Sp.self, Sp.sum_minus, HCN.out, Sp.both_none hk]; omega)
      have HBK := Lib.hid (Sp.back_less hk)
      go_wp2_with fail
      refine (count_is a6 c6 _ _ (by omega) (HU8.out.later HB14.out) HC1.out).mono ?_
      rintro e w15 ⟨rfl, hb⟩
      have HB15 := Lib.hid (HB14.out.trans (hb.mono HB14.out.size))
      clear hb HB14
      go_wp2_with fail
      refine (count_is a8 c8 _ _ (by omega) (HD8.out.later HB15.out) HC2.out).mono ?_
      rintro e w16 ⟨rfl, hb⟩
      have HB16 := Lib.hid (HB15.out.trans (hb.mono HB15.out.size))
      clear hb HB15
      go_wp2_with fail
      refine ((ChMinus.any a6 (some ⟨w5.heap.size, 0, none⟩) c6 1 _ [(k, k)] _ (by simp; omega) (HU8.out.later HB16.out) (HO8.out.later HB16.out)).mono fun e w' h => Mixed.cast HBK.out h).mono ?_
      rintro e w17 ⟨a17, c17, rfl, hs, hb⟩
      rw [HSELF.out] at hs ⊢
      have HB17 := Lib.hid (HB16.out.trans (hb.mono HB16.out.size))
      have HS17 := Lib.hid hs
      clear hb hs HB16
      go_wp2_with fail
      refine (refSame_any a17 a2 c17 c2 L L _ HS17.out (HL8.out.later HB17.out)).mono ?_
      rintro e w18 ⟨rfl, hb⟩
      have HB18 := Lib.hid (HB17.out.trans (hb.mono HB17.out.size))
      have HBW := Lib.hid (HB8.out.trans (HB18.out.mono HB8.out.size))
      clear hb HB17
      go_wp2_with fail
      refine (awake_any _ (tab_later HT.out HBW.out)).mono ?_
      rintro e w19 ⟨rfl, hb⟩
      have HB19 := Lib.hid (HBW.out.trans (hb.mono HBW.out.size))
      clear hb
      go_wp2
      go_ret
      exact ⟨rfl, HB19.out⟩
end Go.Proofs.YtlbmkgnfbkimaaaDoor
