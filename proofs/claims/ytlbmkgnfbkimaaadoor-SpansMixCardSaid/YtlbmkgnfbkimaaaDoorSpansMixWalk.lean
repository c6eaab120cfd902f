/- The walk of SpansMix. -/
import Derived.Test.YtlbmkgnfbkimaaaDoorLaid
import Derived.Test.YtlbmkgnfbkimaaaDoorAwake
import Derived.Test.YtlbmkgnfbkimaaaDoorChUnion
import Derived.Test.YtlbmkgnfbkimaaaDoorChMinus
import Derived.Test.YtlbmkgnfbkimaaaDoorChBoth
import Derived.Test.YtlbmkgnfbkimaaaDoorSpMix0
import Derived.Test.YtlbmkgnfbkimaaaDoorSpMix1
import Derived.Test.YtlbmkgnfbkimaaaDoorSpMix2
import Derived.Test.YtlbmkgnfbkimaaaDoorSpRef
namespace Go.Proofs.YtlbmkgnfbkimaaaDoor
open Go.RowKit Go.Shelf
attribute [local go_sem] Oper.semAt_some

open Classical in
set_option maxRecDepth 100000 in
set_option maxHeartbeats 4000000 in
theorem spansMix_walk (a : Option Addr) (cap : Nat) (l : List Sp.S) (b : Option Addr) (cap' : Nat) (m : List Sp.S) (w : World) (hS : Spans w a cap l) (hS' : Spans w b cap' m) (ht : Tab w) :
    Calls Tryd.prog 4 #[.slice a l.length cap, .slice b m.length cap'] w fun e w' => e = .returned (.bool true) ∧ Below w.heap.size w w' := by
  have hm : l.length ≤ 9223372036854775807 := hS.2.1
  have hm' : m.length ≤ 9223372036854775807 := hS'.2.1
  by_cases h : 40 < l.length
  · go_enter Tryd.func4, Tryd.ntmps4
    go_wp2_with fail
    refine (awake_any _ ht).mono ?_
    rintro e w1 ⟨rfl, hb⟩
    have HB := Lib.hid hb
    clear hb
    go_wp2
    go_ret
    exact ⟨rfl, HB.out⟩
  by_cases h' : 40 < m.length
  · go_enter Tryd.func4, Tryd.ntmps4
    go_wp2_with fail
    refine (awake_any _ ht).mono ?_
    rintro e w1 ⟨rfl, hb⟩
    have HB := Lib.hid hb
    clear hb
    go_wp2
    go_ret
    exact ⟨rfl, HB.out⟩
  · have hl : l.length + m.length ≤ 100000 := by omega
    have HS := Lib.hid hS
    have HS' := Lib.hid hS'
    have HT := Lib.hid ht
    clear hS hS' ht
    go_enter Tryd.func4, Tryd.ntmps4
    go_wp2_with fail
    refine (ChUnion.any a b cap cap' l m _ hl HS.out HS'.out).mono ?_
    rintro e w1 ⟨a1, c1, rfl, hs, hb⟩
    have HB1 := Lib.hid hb
    have H1 := Lib.hid hs
    clear hb hs
    go_wp2_with fail
    refine (refMix_0 a b cap cap' l m _ hl (HS.out.later HB1.out) (HS'.out.later HB1.out)).mono ?_
    rintro e w2 ⟨a2, c2, rfl, hs, hb⟩
    have HB2 := Lib.hid (HB1.out.trans (hb.mono HB1.out.size))
    have H1' := Lib.hid (H1.out.later hb)
    have H2 := Lib.hid hs
    clear hb hs HB1 H1
    go_wp2_with fail
    refine (refSame_any a1 a2 c1 c2 _ _ _ H1'.out H2.out).mono ?_
    rintro e w3 ⟨rfl, hb⟩
    have HB3 := Lib.hid (HB2.out.trans (hb.mono HB2.out.size))
    clear hb HB2 H1' H2
    go_wp2_with fail
    refine (ChMinus.any a b cap cap' l m _ hl (HS.out.later HB3.out) (HS'.out.later HB3.out)).mono ?_
    rintro e w4 ⟨a3, c3, rfl, hs, hb⟩
    have HB4 := Lib.hid (HB3.out.trans (hb.mono HB3.out.size))
    have H3 := Lib.hid hs
    clear hb hs HB3
    go_wp2_with fail
    refine (refMix_1 a b cap cap' l m _ hl (HS.out.later HB4.out) (HS'.out.later HB4.out)).mono ?_
    rintro e w5 ⟨a4, c4, rfl, hs, hb⟩
    have HB5 := Lib.hid (HB4.out.trans (hb.mono HB4.out.size))
    have H3' := Lib.hid (H3.out.later hb)
    have H4 := Lib.hid hs
    clear hb hs HB4 H3
    go_wp2_with fail
    refine (refSame_any a3 a4 c3 c4 _ _ _ H3'.out H4.out).mono ?_
    rintro e w6 ⟨rfl, hb⟩
    have HB6 := Lib.hid (HB5.out.trans (hb.mono HB5.out.size))
    clear hb HB5 H3' H4
    go_wp2_with fail
    refine (ChBoth.any a b cap cap' l m _ hl (HS.out.later HB6.out) (HS'.out.later HB6.out)).mono ?_
    rintro e w7 ⟨a5, c5, rfl, hs, hb⟩
    have HB7 := Lib.hid (HB6.out.trans (hb.mono HB6.out.size))
    have H5 := Lib.hid hs
    clear hb hs HB6
    go_wp2_with fail
    refine (refMix_2 a b cap cap' l m _ hl (HS.out.later HB7.out) (HS'.out.later HB7.out)).mono ?_
    rintro e w8 ⟨a6, c6, rfl, hs, hb⟩
    have HB8 := Lib.hid (HB7.out.trans (hb.mono HB7.out.size))
    have H5' := Lib.hid (H5.out.later hb)
    have H6 := Lib.hid hs
    clear hb hs HB7 H5
    go_wp2_with fail
    refine (refSame_any a5 a6 c5 c6 _ _ _ H5'.out H6.out).mono ?_
    rintro e w9 ⟨rfl, hb⟩
    have HB9 := Lib.hid (HB8.out.trans (hb.mono HB8.out.size))
    clear hb HB8 H5' H6
    go_wp2_with fail
    refine (awake_any _ (tab_later HT.out HB9.out)).mono ?_
    rintro e w10 ⟨rfl, hb⟩
    have HB10 := Lib.hid (HB9.out.trans (hb.mono HB9.out.size))
    clear hb HB9
    go_wp2
    go_ret
    exact ⟨rfl, HB10.out⟩
end Go.Proofs.YtlbmkgnfbkimaaaDoor
