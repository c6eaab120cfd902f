/- The walk of SpansLaws. -/
import Derived.Test.YtlbmkgnfbkimaaaDoorLaid
import Derived.Test.YtlbmkgnfbkimaaaDoorAwake
import Derived.Test.YtlbmkgnfbkimaaaDoorChUnion
import Derived.Test.YtlbmkgnfbkimaaaDoorChMinus
import Derived.Test.YtlbmkgnfbkimaaaDoorChBoth
import Derived.Test.YtlbmkgnfbkimaaaDoorSpRef
import Derived.Test.YtlbmkgnfbkimaaaDoorDevCount
import Derived.Test.YtlbmkgnfbkimaaaDoorMake
import Derived.Test.YtlbmkgnfbkimaaaDoorCntPlain
namespace Go.Proofs.YtlbmkgnfbkimaaaDoor
open Go.RowKit Go.Shelf
attribute [local go_sem] Oper.semAt_some

/-- spans.Count, its answer named. -/
theorem count_is {c : Int} (a : Option Addr) (cap : Nat) (l : List Sp.S) (w : World) (hl : l.length ≤ 1000000) (hS : Spans w a cap l) (hc : sumS (Sp.mixS 0 l []) = c) :
    Calls Tryd.prog 18 #[.slice a l.length cap] w fun e W' => e = .returned (.int .i64 c) ∧ Below w.heap.size w W' := by
  subst hc
  exact callsIn_wide.1 (count_any a cap l w hl hS)

theorem mixS_short (how : Int) (a b : List Sp.S) : (Sp.mixS how a b).length ≤ 2 * (a.length + b.length) + 2 := by
  have h1 := Sp.mixTo_len how a b (Sp.marksS (a ++ b)) ((Sp.marksS (a ++ b)).length - 1)
  have h2 := Sp.marksS_len (a ++ b)
  unfold Sp.mixS
  simp at h2
  omega

theorem Mixed.cast {how how' : Int} {a b a' b' : List Sp.S} {w w' : World} {e : Ending} (h : Sp.mixS how a b = Sp.mixS how' a' b') (hm : Mixed how a b w e w') : Mixed how' a' b' w e w' := by
  unfold Mixed at hm ⊢
  rwa [h] at hm

open Classical in
set_option maxRecDepth 100000 in
set_option maxHeartbeats 8000000 in
theorem spansLaws_walk (a : Option Addr) (cap : Nat) (l : List Int) (b : Option Addr) (cap' : Nat) (m : List Int) (w : World) (hS : U16s w a cap l) (hS' : U16s w b cap' m) (ht : Tab w) :
    Calls Tryd.prog 7 #[.slice a l.length cap, .slice b m.length cap'] w fun e w' => e = .returned (.bool true) ∧ Below w.heap.size w w' := by
  have hm : l.length ≤ 9223372036854775807 := Nat.le_trans hS.1 hS.2.1
  have hm' : m.length ≤ 9223372036854775807 := Nat.le_trans hS'.1 hS'.2.1
  by_cases h : 40 < l.length
  · go_enter Tryd.func7, Tryd.ntmps7
    go_wp2_with fail
    refine (awake_any _ ht).mono ?_
    rintro e w1 ⟨rfl, hb⟩
    have HB := Lib.hid hb
    clear hb
    go_wp2
    go_ret
    exact ⟨rfl, HB.out⟩
  by_cases h' : 40 < m.length
  · go_enter Tryd.func7, Tryd.ntmps7
    go_wp2_with fail
    refine (awake_any _ ht).mono ?_
    rintro e w1 ⟨rfl, hb⟩
    have HB := Lib.hid hb
    clear hb
    go_wp2
    go_ret
    exact ⟨rfl, HB.out⟩
  · have HS := Lib.hid hS
    have HS' := Lib.hid hS'
    have HT := Lib.hid ht
    have hla := mkS_len l
    have hlb := mkS_len m
    clear hS hS' ht
    go_enter Tryd.func7, Tryd.ntmps7
    go_wp2_with fail
    refine (make_any a cap l _ (by omega) HS.out).mono ?_
    rintro e w1 ⟨a1, c1, rfl, hs, hb⟩
    have HB1 := Lib.hid hb
    have H1 := Lib.hid hs
    clear hb hs
    go_wp2_with fail
    refine (make_any b cap' m _ (by omega) (HS'.out.later HB1.out)).mono ?_
    rintro e w2 ⟨a2, c2, rfl, hs, hb⟩
    have HA := Lib.hid (H1.out.later hb)
    have HB := Lib.hid hs
    have HB2 := Lib.hid (HB1.out.trans (hb.mono HB1.out.size))
    clear hb hs HB1 H1 HS HS'
    generalize mkS l = la at *
    generalize mkS m = lb at *
    have lm := mixS_short 1 la lb
    have lx := mixS_short 2 la lb
    have lu := mixS_short 0 la lb
    have ba := Sp.mix_bound 0 la []
    have bb := Sp.mix_bound 0 lb []
    have bx := Sp.mix_bound 2 la lb
    obtain ⟨ca, hca⟩ : ∃ ca, sumS (Sp.mixS 0 la []) = ca := ⟨_, rfl⟩
    obtain ⟨cb, hcb⟩ : ∃ cb, sumS (Sp.mixS 0 lb []) = cb := ⟨_, rfl⟩
    obtain ⟨cx, hcx⟩ : ∃ cx, sumS (Sp.mixS 2 la lb) = cx := ⟨_, rfl⟩
    have HCU := Lib.hid (show sumS (Sp.mixS 0 (Sp.mixS 0 la lb) []) = ca + cb - cx by rw [Sp.self, Sp.sum_union, hca, hcb, hcx])
    have HCM := Lib.hid (show sumS (Sp.mixS 0 (Sp.mixS 1 la lb) []) = ca - cx by rw [Sp.self, Sp.sum_minus, hca, hcx])
    have HCX := Lib.hid (show sumS (Sp.mixS 0 (Sp.mixS 2 la lb) []) = cx by rw [Sp.self, hcx])
    rw [hca] at ba
    rw [hcb] at bb
    rw [hcx] at bx
    have HCA := Lib.hid hca
    have HCB := Lib.hid hcb
    have ew1 : IntKind.i64.wrap (ca + cb) = ca + cb := IntWalk.i64_in _ (by omega)
    have ew2 : IntKind.i64.wrap (ca + cb - cx) = ca + cb - cx := IntWalk.i64_in _ (by omega)
    have ew3 : IntKind.i64.wrap (ca - cx) = ca - cx := IntWalk.i64_in _ (by omega)
    clear hca hcb hcx
    go_wp2_with fail
    refine (ChUnion.any a1 a2 c1 c2 la lb _ (by omega) HA.out HB.out).mono ?_
    rintro e w3 ⟨a3, c3, rfl, hs, hb⟩
    have HB3 := Lib.hid (HB2.out.trans (hb.mono HB2.out.size))
    have HA3 := Lib.hid (HA.out.later hb)
    have HBB3 := Lib.hid (HB.out.later hb)
    have HU := Lib.hid hs
    clear hb hs HB2 HA HB
    go_wp2_with fail
    refine (ChMinus.any a1 a2 c1 c2 la lb _ (by omega) HA3.out HBB3.out).mono ?_
    rintro e w4 ⟨a4, c4, rfl, hs, hb⟩
    have HB4 := Lib.hid (HB3.out.trans (hb.mono HB3.out.size))
    have HA4 := Lib.hid (HA3.out.later hb)
    have HBB4 := Lib.hid (HBB3.out.later hb)
    have HU4 := Lib.hid (HU.out.later hb)
    have HM := Lib.hid hs
    clear hb hs HB3 HA3 HBB3 HU
    go_wp2_with fail
    refine (ChBoth.any a1 a2 c1 c2 la lb _ (by omega) HA4.out HBB4.out).mono ?_
    rintro e w5 ⟨a5, c5, rfl, hs, hb⟩
    have HB5 := Lib.hid (HB4.out.trans (hb.mono HB4.out.size))
    have HA5 := Lib.hid (HA4.out.later hb)
    have HBB5 := Lib.hid (HBB4.out.later hb)
    have HU5 := Lib.hid (HU4.out.later hb)
    have HM5 := Lib.hid (HM.out.later hb)
    have HX5 := Lib.hid hs
    clear hb hs HB4 HA4 HBB4 HU4 HM
    -- all is later than w5 from here on
    go_wp2_with fail
    refine ((ChUnion.any a2 a1 c2 c1 lb la _ (by omega) HBB5.out HA5.out).mono fun e w' h => Mixed.cast (Sp.union_comm lb la) h).mono ?_
    rintro e w6 ⟨a6, c6, rfl, hs, hb⟩
    have HB6 := Lib.hid hb
    have HS6 := Lib.hid hs
    clear hb hs
    go_wp2_with fail
    refine (refSame_any a3 a6 c3 c6 _ _ _ (HU5.out.later HB6.out) HS6.out).mono ?_
    rintro e w7 ⟨rfl, hb⟩
    have HB7 := Lib.hid (HB6.out.trans (hb.mono HB6.out.size))
    clear hb HB6 HS6
    go_wp2_with fail
    refine ((ChBoth.any a2 a1 c2 c1 lb la _ (by omega) (HBB5.out.later HB7.out) (HA5.out.later HB7.out)).mono fun e w' h => Mixed.cast (Sp.both_comm lb la) h).mono ?_
    rintro e w8 ⟨a8, c8, rfl, hs, hb⟩
    have HB8 := Lib.hid (HB7.out.trans (hb.mono HB7.out.size))
    have HS8 := Lib.hid hs
    clear hb hs HB7
    go_wp2_with fail
    refine (refSame_any a5 a8 c5 c8 _ _ _ (HX5.out.later HB8.out) HS8.out).mono ?_
    rintro e w9 ⟨rfl, hb⟩
    have HB9 := Lib.hid (HB8.out.trans (hb.mono HB8.out.size))
    clear hb HB8 HS8
    go_wp2_with fail
    refine ((ChUnion.any a4 a5 c4 c5 _ _ _ (by omega) (HM5.out.later HB9.out) (HX5.out.later HB9.out)).mono fun e w' h => Mixed.cast (Sp.parts la lb) h).mono ?_
    rintro e w10 ⟨a10, c10, rfl, hs, hb⟩
    have HB10 := Lib.hid (HB9.out.trans (hb.mono HB9.out.size))
    have HS10 := Lib.hid hs
    clear hb hs HB9
    go_wp2_with fail
    refine (callsIn_wide.1 (norm_any a1 c1 la _ (by omega) (HA5.out.later HB10.out))).mono ?_
    rintro e w11 ⟨a11, c11, rfl, hs, hb⟩
    have HB11 := Lib.hid (HB10.out.trans (hb.mono HB10.out.size))
    have HS10' := Lib.hid (HS10.out.later hb)
    have HS11 := Lib.hid hs
    clear hb hs HB10 HS10
    go_wp2_with fail
    refine (refSame_any a10 a11 c10 c11 _ _ _ HS10'.out HS11.out).mono ?_
    rintro e w12 ⟨rfl, hb⟩
    have HB12 := Lib.hid (HB11.out.trans (hb.mono HB11.out.size))
    clear hb HB11 HS10' HS11
    go_wp2_with fail
    refine ((ChBoth.any a4 a2 c4 c2 _ _ _ (by omega) (HM5.out.later HB12.out) (HBB5.out.later HB12.out)).mono fun e w' h => (show ∃ a c, e = .returned (.slice a 0 c) ∧ Below w12.heap.size w12 w' by
      obtain ⟨a, c, he, _, hb⟩ := h
      rw [Sp.apart] at he
      exact ⟨a, c, he, hb⟩)).mono ?_
    rintro e w13 ⟨a13, c13, rfl, hb⟩
    have HB13 := Lib.hid (HB12.out.trans (hb.mono HB12.out.size))
    clear hb HB12
    go_wp2_with fail
    refine (count_is a3 c3 _ _ (by omega) (HU5.out.later HB13.out) HCU.out).mono ?_
    rintro e w14 ⟨rfl, hb⟩
    have HB14 := Lib.hid (HB13.out.trans (hb.mono HB13.out.size))
    clear hb HB13
    go_wp2_with fail
    refine (count_is a1 c1 la _ (by omega) (HA5.out.later HB14.out) HCA.out).mono ?_
    rintro e w15 ⟨rfl, hb⟩
    have HB15 := Lib.hid (HB14.out.trans (hb.mono HB14.out.size))
    clear hb HB14
    go_wp2_with fail
    refine (count_is a2 c2 lb _ (by omega) (HBB5.out.later HB15.out) HCB.out).mono ?_
    rintro e w16 ⟨rfl, hb⟩
    have HB16 := Lib.hid (HB15.out.trans (hb.mono HB15.out.size))
    clear hb HB15
    go_wp2_with fail
    refine (count_is a5 c5 _ _ (by omega) (HX5.out.later HB16.out) HCX.out).mono ?_
    rintro e w17 ⟨rfl, hb⟩
    have HB17 := Lib.hid (HB16.out.trans (hb.mono HB16.out.size))
    clear hb HB16
    go_wp2_with fail
    refine (count_is a4 c4 _ _ (by omega) (HM5.out.later HB17.out) HCM.out).mono ?_
    rintro e w18 ⟨rfl, hb⟩
    have HB18 := Lib.hid (HB17.out.trans (hb.mono HB17.out.size))
    clear hb HB17
    go_wp2_with fail
    refine (count_is a1 c1 la _ (by omega) (HA5.out.later HB18.out) HCA.out).mono ?_
    rintro e w19 ⟨rfl, hb⟩
    have HB19 := Lib.hid (HB18.out.trans (hb.mono HB18.out.size))
    clear hb HB18
    go_wp2_with fail
    refine (count_is a5 c5 _ _ (by omega) (HX5.out.later HB19.out) HCX.out).mono ?_
    rintro e w20 ⟨rfl, hb⟩
    have HB20 := Lib.hid (HB19.out.trans (hb.mono HB19.out.size))
    have HBW := Lib.hid (HB5.out.trans (HB20.out.mono HB5.out.size))
    clear hb HB19
    go_wp2_with fail
    refine (awake_any _ (tab_later HT.out HBW.out)).mono ?_
    rintro e w21 ⟨rfl, hb⟩
    have HB21 := Lib.hid (HBW.out.trans (hb.mono HBW.out.size))
    clear hb
    go_wp2
    go_ret
    exact ⟨rfl, HB21.out⟩
end Go.Proofs.YtlbmkgnfbkimaaaDoor
