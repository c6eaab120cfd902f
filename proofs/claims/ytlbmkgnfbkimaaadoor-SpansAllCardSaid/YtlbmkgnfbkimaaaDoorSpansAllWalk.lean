/- The walk of SpansAll. -/
import Derived.Test.YtlbmkgnfbkimaaaDoorLaid
import Derived.Test.YtlbmkgnfbkimaaaDoorDevMay
import Derived.Test.YtlbmkgnfbkimaaaDoorDevHas
import Derived.Test.YtlbmkgnfbkimaaaDoorAwake
import Derived.Test.YtlbmkgnfbkimaaaDoorDevCount
import Derived.Test.YtlbmkgnfbkimaaaDoorCollect
import Derived.Test.YtlbmkgnfbkimaaaDoorDevTextWalk
import Derived.Test.YtlbmkgnfbkimaaaDoorSpMay
import Derived.Test.YtlbmkgnfbkimaaaDoorSpText
import Derived.Test.YtlbmkgnfbkimaaaDoorSpNorm
namespace Go.Proofs.YtlbmkgnfbkimaaaDoor
open Go.RowKit Go.Shelf
attribute [local go_sem] Oper.semAt_some

open Classical in
set_option maxRecDepth 100000 in
set_option maxHeartbeats 4000000 in
theorem spansAll_walk (a : Option Addr) (cap : Nat) (l : List Sp.S) (n : Int) (w : World) (hS : Spans w a cap l) (ht : Tab w) :
    Calls Tryd.prog 3 #[.slice a l.length cap, .int .i64 n] w fun e w' => e = .returned (.bool true) ∧ Below w.heap.size w w' := by
  have hm : l.length ≤ 9223372036854775807 := hS.2.1
  by_cases h : 40 < l.length
  · go_enter Tryd.func3, Tryd.ntmps3
    go_wp2_with fail
    refine (awake_any _ ht).mono ?_
    rintro e w1 ⟨rfl, hb⟩
    have HB := Lib.hid hb
    clear hb
    go_wp2
    go_ret
    exact ⟨rfl, HB.out⟩
  · have hl : l.length ≤ 40 := by omega
    have HS := Lib.hid hS
    have HT := Lib.hid ht
    clear hS ht
    go_enter Tryd.func3, Tryd.ntmps3
    go_wp2_with fail
    refine (devMay_any a cap l _ (by omega) HS.out).mono ?_
    rintro e w1 ⟨rfl, hb⟩
    have HB1 := Lib.hid hb
    clear hb
    go_wp2_with fail
    refine (refMay_any a cap l _ (HS.out.later HB1.out)).mono ?_
    rintro e w2 ⟨rfl, hb⟩
    have HB2 := Lib.hid (HB1.out.trans (hb.mono HB1.out.size))
    clear hb HB1
    go_wp2_with fail
    refine (callsIn_wide.1 (norm_any a cap l _ (by omega) (HS.out.later HB2.out))).mono ?_
    rintro e w3 ⟨a3, cap3, rfl, hs3, hb⟩
    have HB3 := Lib.hid (HB2.out.trans (hb.mono HB2.out.size))
    have HS3 := Lib.hid hs3
    clear hb hs3 HB2
    go_wp2_with fail
    refine (refNorm_any a cap l _ (by omega) (HS.out.later HB3.out)).mono ?_
    rintro e w4 ⟨a4, cap4, rfl, hs4, hb⟩
    have HS3' := Lib.hid (HS3.out.later hb)
    have HB4 := Lib.hid (HB3.out.trans (hb.mono HB3.out.size))
    have HS4 := Lib.hid hs4
    clear hb hs4 HB3
    go_wp2_with fail
    refine (refSame_any a3 a4 cap3 cap4 _ _ _ HS3'.out HS4.out).mono ?_
    rintro e w5 ⟨rfl, hb⟩
    have HB5 := Lib.hid (HB4.out.trans (hb.mono HB4.out.size))
    clear hb HB4 HS3 HS3' HS4
    go_wp2_with fail
    refine (devHas_any a cap l n _ (by omega) (HS.out.later HB5.out)).mono ?_
    rintro e w6 ⟨rfl, hb⟩
    have HB6 := Lib.hid (HB5.out.trans (hb.mono HB5.out.size))
    clear hb HB5
    go_wp2_with fail
    refine (refHas_any a cap l n _ (HS.out.later HB6.out)).mono ?_
    rintro e w7 ⟨rfl, rfl⟩
    go_wp2_with fail
    refine (callsIn_wide.1 (count_any a cap l _ (by omega) (HS.out.later HB6.out))).mono ?_
    rintro e w7 ⟨rfl, hb⟩
    have HB7 := Lib.hid (HB6.out.trans (hb.mono HB6.out.size))
    clear hb HB6
    go_wp2_with fail
    refine (refCount_any a cap l _ (by omega) (HS.out.later HB7.out)).mono ?_
    rintro e w8 ⟨rfl, hb⟩
    have HB8 := Lib.hid (HB7.out.trans (hb.mono HB7.out.size))
    clear hb HB7
    go_wp2_with fail
    refine (callsIn_wide.1 (text_any a cap l _ (by omega) (HS.out.later HB8.out) (tab_later HT.out HB8.out))).mono ?_
    rintro e w9 ⟨rfl, hb⟩
    have HB9 := Lib.hid (HB8.out.trans (hb.mono HB8.out.size))
    clear hb HB8
    go_wp2_with fail
    refine (refText_any a cap l _ (by omega) (HS.out.later HB9.out)).mono ?_
    rintro e w10 ⟨rfl, hb⟩
    have HB10 := Lib.hid (HB9.out.trans (hb.mono HB9.out.size))
    clear hb HB9
    go_wp2_with fail
    refine (awake_any _ (tab_later HT.out HB10.out)).mono ?_
    rintro e w11 ⟨rfl, hb⟩
    have HB11 := Lib.hid (HB10.out.trans (hb.mono HB10.out.size))
    clear hb HB10
    go_wp2
    go_ret
    exact ⟨rfl, HB11.out⟩
end Go.Proofs.YtlbmkgnfbkimaaaDoor
