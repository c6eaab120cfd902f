/- The walk of ItemAll: of all items, what the program tells of them is what the reference tells. -/
import Derived.Test.YtdnonginlbjcoaaItAwake
import Derived.Test.YtdnonginlbjcoaaItRefMay
import Derived.Test.YtdnonginlbjcoaaItGreat
import Derived.Deep.RegionHeld3
namespace Go.Proofs.Ytdnonginlbjcoaa
open Go.RowKit Go.Shelf
set_option linter.unusedVariables false
set_option linter.unusedSimpArgs false

/-- what is known of cells stays. -/
theorem cell_next {A B : World} {p : Addr} {v : Value} (h : A.cell? p = some v) (hb : Below A.heap.size A B) : B.cell? p = some v := (hb.cell (World.block_lt_of_cell? A p h)).trans h

theorem allS_next {W A B : World} {p0 p1 p2 p3 p4 p5 p6 p7 p8 p9 : Addr} {v0 v1 v2 v3 v4 v5 v6 v7 v8 v9 : Value} (h : A.cell? p0 = some v0 ∧ A.cell? p1 = some v1 ∧ A.cell? p2 = some v2 ∧ A.cell? p3 = some v3 ∧ A.cell? p4 = some v4 ∧ A.cell? p5 = some v5 ∧ A.cell? p6 = some v6 ∧ A.cell? p7 = some v7 ∧ A.cell? p8 = some v8 ∧ A.cell? p9 = some v9 ∧ Below W.heap.size W A) (hb : Below A.heap.size A B) :
    B.cell? p0 = some v0 ∧ B.cell? p1 = some v1 ∧ B.cell? p2 = some v2 ∧ B.cell? p3 = some v3 ∧ B.cell? p4 = some v4 ∧ B.cell? p5 = some v5 ∧ B.cell? p6 = some v6 ∧ B.cell? p7 = some v7 ∧ B.cell? p8 = some v8 ∧ B.cell? p9 = some v9 ∧ Below W.heap.size W B := by
  obtain ⟨h0, h1, h2, h3, h4, h5, h6, h7, h8, h9, h10⟩ := h
  exact ⟨cell_next h0 hb, cell_next h1 hb, cell_next h2 hb, cell_next h3 hb, cell_next h4 hb, cell_next h5 hb, cell_next h6 hb, cell_next h7 hb, cell_next h8 hb, cell_next h9 hb, h10.trans (hb.mono h10.size)⟩

set_option maxRecDepth 100000 in
set_option maxHeartbeats 8000000 in
theorem itemAll_walk (ka xa : Int) (sa : List UInt8) (aF : Option Addr) (cF : Nat) (fa : List (List UInt8 × List UInt8)) (aL : Option Addr) (cL : Nat) (wa : List (List UInt8)) (kb xb : Int) (sb : List UInt8) (bF : Option Addr) (dF : Nat) (fb : List (List UInt8 × List UInt8)) (bL : Option Addr) (dL : Nat) (wb : List (List UInt8)) (now : Int) (w : World) (hFa0 : Fds w aF cF fa) (hLa0 : Wds w aL cL wa) (hsa : sa.length ≤ 9223372036854775807) (hFb0 : Fds w bF dF fb) (hLb0 : Wds w bL dL wb) (hsb : sb.length ≤ 9223372036854775807) :
    Calls Try.prog 3 #[itv ka sa aF fa.length cF aL wa.length cL xa, itv kb sb bF fb.length dF bL wb.length dL xb, .int .i64 now] w fun e W' => e = .returned (.bool true) ∧ Below w.heap.size w W' := by
  obtain ⟨W2, hW2⟩ : ∃ W2, (w.alloc (.cells #[.int .i64 ka, .string ⟨sa.toArray⟩, .slice aF fa.length cF, .slice aL wa.length cL, .int .i64 xa] 25)).alloc (.cells #[.int .i64 kb, .string ⟨sb.toArray⟩, .slice bF fb.length dF, .slice bL wb.length dL, .int .i64 xb] 25) = W2 := ⟨_, rfl⟩
  have hB2 : Below w.heap.size w W2 := by rw [← hW2]; exact ((Below.refl _ w).alloc (Nat.le_refl _) _).alloc (by simp) _
  have hxa : ItBox W2 w.heap.size ka sa aF fa.length cF aL wa.length cL xa := by
    rw [← hW2]
    exact ItBox.later (ItBox.new w ka sa aF fa.length cF aL wa.length cL xa) ((Below.refl _ _).alloc (Nat.le_refl _) _)
  have hxb : ItBox W2 (w.heap.size + 1) kb sb bF fb.length dF bL wb.length dL xb := by
    rw [← hW2]
    have := ItBox.new (w.alloc (itc ka sa aF fa.length cF aL wa.length cL xa)) kb sb bF fb.length dF bL wb.length dL xb
    rwa [World.size_alloc] at this
  have hFa := hFa0.later hB2
  have hLa := hLa0.later hB2
  have hFb := hFb0.later hB2
  have hLb := hLb0.later hB2
  obtain ⟨c0, c1, c2, c3, c4⟩ := hxa.at
  obtain ⟨d0, d1, d2, d3, d4⟩ := hxb.at
  have hga := fun W (h : Below W2.heap.size W2 W) => great_any ka xa sa aF cF fa aL cL wa W (hFa.later h) (hLa.later h) hsa
  have hgb := fun W (h : Below W2.heap.size W2 W) => great_any kb xb sb bF dF fb bL dL wb W (hFb.later h) (hLb.later h) hsb
  unfold itv at hga hgb
  have HW2 := Lib.hid hW2
  have HB2 := Lib.hid hB2
  have HGA := Lib.hid hga
  have HGB := Lib.hid hgb
  have HFA := Lib.hid hFa
  have HLA := Lib.hid hLa
  have HFB := Lib.hid hFb
  have HLB := Lib.hid hLb
  have HC := Lib.hid (⟨⟨c0, c1, c2, c3, c4⟩, d0, d1, d2, d3, d4⟩ : (W2.cell? ⟨w.heap.size, 0, none⟩ = some (.int .i64 ka) ∧ W2.cell? ⟨w.heap.size, 1, none⟩ = some (.string ⟨sa.toArray⟩) ∧ W2.cell? ⟨w.heap.size, 2, none⟩ = some (.slice aF fa.length cF) ∧ W2.cell? ⟨w.heap.size, 3, none⟩ = some (.slice aL wa.length cL) ∧ W2.cell? ⟨w.heap.size, 4, none⟩ = some (.int .i64 xa)) ∧ W2.cell? ⟨w.heap.size + 1, 0, none⟩ = some (.int .i64 kb) ∧ W2.cell? ⟨w.heap.size + 1, 1, none⟩ = some (.string ⟨sb.toArray⟩) ∧ W2.cell? ⟨w.heap.size + 1, 2, none⟩ = some (.slice bF fb.length dF) ∧ W2.cell? ⟨w.heap.size + 1, 3, none⟩ = some (.slice bL wb.length dL) ∧ W2.cell? ⟨w.heap.size + 1, 4, none⟩ = some (.int .i64 xb))
  clear hW2 hB2 hxa hxb hga hgb hFa hLa hFb hLb hFa0 hLa0 hFb0 hLb0
  unfold itv
  go_enter Try.func3, Try.ntmps3
  go_upto_region 1 with (fail)
  rw [show (w.alloc (.cells #[.int .i64 ka, .string ⟨sa.toArray⟩, .slice aF fa.length cF, .slice aL wa.length cL, .int .i64 xa] 25)).alloc (.cells #[.int .i64 kb, .string ⟨sb.toArray⟩, .slice bF fb.length dF, .slice bL wb.length dL, .int .i64 xb] 25) = W2 from HW2.out]
  clear HW2
  go_wp2_with fail
  refine (HGA.out _ (Below.refl _ _)).mono ?_
  rintro e w1 ⟨rfl, hb⟩
  have HB1 := Lib.hid hb
  cases hg : It.greatB sa fa wa with
  | true =>
    clear c0 c1 c2 c3 c4 d0 d1 d2 d3 d4 hb
    go_wp2_with fail
    refine (awake_any _).mono ?_
    rintro e w3 ⟨rfl, hb3⟩
    have HB3 := Lib.hid hb3
    clear hb3
    go_wp2
    go_ret
    exact ⟨rfl, HB2.out.trans ((HB1.out.trans (HB3.out.mono HB1.out.size)).mono HB2.out.size)⟩
  | false =>
    replace c0 := cell_next c0 hb
    replace c1 := cell_next c1 hb
    replace c2 := cell_next c2 hb
    replace c3 := cell_next c3 hb
    replace c4 := cell_next c4 hb
    replace d0 := cell_next d0 hb
    replace d1 := cell_next d1 hb
    replace d2 := cell_next d2 hb
    replace d3 := cell_next d3 hb
    replace d4 := cell_next d4 hb
    clear hb
    go_wp2_with fail
    refine (HGB.out _ HB1.out).mono ?_
    rintro e w2 ⟨rfl, hb⟩
    have HB2b := Lib.hid (HB1.out.trans (hb.mono HB1.out.size))
    replace c0 := cell_next c0 hb
    replace c1 := cell_next c1 hb
    replace c2 := cell_next c2 hb
    replace c3 := cell_next c3 hb
    replace c4 := cell_next c4 hb
    replace d0 := cell_next d0 hb
    replace d1 := cell_next d1 hb
    replace d2 := cell_next d2 hb
    replace d3 := cell_next d3 hb
    replace d4 := cell_next d4 hb
    clear hb
    cases hgg : It.greatB sb fb wb with
    | true =>
      clear c0 c1 c2 c3 c4 d0 d1 d2 d3 d4
      go_wp2_with fail
      refine (awake_any _).mono ?_
      rintro e w3 ⟨rfl, hb3⟩
      have HB3 := Lib.hid hb3
      clear hb3
      go_wp2
      go_ret
      exact ⟨rfl, HB2.out.trans ((HB2b.out.trans (HB3.out.mono HB2b.out.size)).mono HB2.out.size)⟩
    | false =>
      obtain ⟨l1, l2, l3, l4, l5⟩ := It.great_no hg
      have hm := fun W (h : Below W2.heap.size W2 W) => may_any ka xa sa aF cF fa aL cL wa W (HFA.out.later h) (HLA.out.later h) (by omega) (by omega)
      have hr := fun W (h : Below W2.heap.size W2 W) => refMay_any ka xa sa aF cF fa aL cL wa W (HFA.out.later h) (HLA.out.later h)
      have hal := fun W (h : Below W2.heap.size W2 W) => alive_any ka sa aF fa.length cF aL wa.length cL xa now W
      have hra := fun W (h : Below W2.heap.size W2 W) => refAlive_any ka sa aF fa.length cF aL wa.length cL xa now W
      have ht := fun W (h : Below W2.heap.size W2 W) => type_any ka sa aF fa.length cF aL wa.length cL xa W
      have hrt := fun W (h : Below W2.heap.size W2 W) => refType_any ka sa aF fa.length cF aL wa.length cL xa W
      have hs := fun W (h : Below W2.heap.size W2 W) => same_any ka kb xa xb sa sb aF bF cF dF fa fb aL bL cL dL wa wb W (HFA.out.later h) (HFB.out.later h) (HLA.out.later h) (HLB.out.later h)
      have hrs := fun W (h : Below W2.heap.size W2 W) => refSame_any ka kb xa xb sa sb aF bF cF dF fa fb aL bL cL dL wa wb W (HFA.out.later h) (HFB.out.later h) (HLA.out.later h) (HLB.out.later h)
      have hc := fun W (h : Below W2.heap.size W2 W) => (copy_any ka xa sa aF cF fa aL cL wa W (HFA.out.later h) (HLA.out.later h) (by omega) (by omega) (by omega) (fun p hp => by have := l4 p hp; omega) (fun t ht => by have := l5 t ht; omega)).mono fun e W' hc => hc.item (fun p hp => by have := l4 p hp; omega) (fun t ht => by have := l5 t ht; omega)
      have hcs := fun W (h : Below W2.heap.size W2 W) (eF : Option Addr) (gF : Nat) (eL : Option Addr) (gL : Nat) (hF : Fds W eF gF fa) (hL : Wds W eL gL wa) => refSame_any ka ka xa xa sa sa eF aF gF cF fa fa eL aL gL cL wa wa W hF (HFA.out.later h) hL (HLA.out.later h)
      rw [It.same_self] at hcs
      unfold itv at hm hr hal hra ht hrt hs hrs hc hcs
      have HHM := Lib.hid hm
      have HHR := Lib.hid hr
      have HHAL := Lib.hid hal
      have HHRA := Lib.hid hra
      have HHT := Lib.hid ht
      have HHRT := Lib.hid hrt
      have HHS := Lib.hid hs
      have HHRS := Lib.hid hrs
      have HHC := Lib.hid hc
      have HHCS := Lib.hid hcs
      have HS : w2.drew.cell? ⟨w.heap.size, 0, none⟩ = some (.int .i64 ka) ∧ w2.drew.cell? ⟨w.heap.size, 1, none⟩ = some (.string ⟨sa.toArray⟩) ∧ w2.drew.cell? ⟨w.heap.size, 2, none⟩ = some (.slice aF fa.length cF) ∧ w2.drew.cell? ⟨w.heap.size, 3, none⟩ = some (.slice aL wa.length cL) ∧ w2.drew.cell? ⟨w.heap.size, 4, none⟩ = some (.int .i64 xa) ∧ w2.drew.cell? ⟨w.heap.size + 1, 0, none⟩ = some (.int .i64 kb) ∧ w2.drew.cell? ⟨w.heap.size + 1, 1, none⟩ = some (.string ⟨sb.toArray⟩) ∧ w2.drew.cell? ⟨w.heap.size + 1, 2, none⟩ = some (.slice bF fb.length dF) ∧ w2.drew.cell? ⟨w.heap.size + 1, 3, none⟩ = some (.slice bL wb.length dL) ∧ w2.drew.cell? ⟨w.heap.size + 1, 4, none⟩ = some (.int .i64 xb) ∧ Below W2.heap.size W2 w2.drew :=
        ⟨(World.cell?_drew _ _).trans c0, (World.cell?_drew _ _).trans c1, (World.cell?_drew _ _).trans c2, (World.cell?_drew _ _).trans c3, (World.cell?_drew _ _).trans c4, (World.cell?_drew _ _).trans d0, (World.cell?_drew _ _).trans d1, (World.cell?_drew _ _).trans d2, (World.cell?_drew _ _).trans d3, (World.cell?_drew _ _).trans d4, HB2b.out.drew⟩
      clear c0 c1 c2 c3 c4 d0 d1 d2 d3 d4 hm hr hal hra ht hrt hs hrs hc hcs l1 l2 l3 l4 l5
      go_upto_region 3 with (fail)
      go_region_held3 (fun W' => W'.cell? ⟨w.heap.size, 0, none⟩ = some (.int .i64 ka) ∧ W'.cell? ⟨w.heap.size, 1, none⟩ = some (.string ⟨sa.toArray⟩) ∧ W'.cell? ⟨w.heap.size, 2, none⟩ = some (.slice aF fa.length cF) ∧ W'.cell? ⟨w.heap.size, 3, none⟩ = some (.slice aL wa.length cL) ∧ W'.cell? ⟨w.heap.size, 4, none⟩ = some (.int .i64 xa) ∧ W'.cell? ⟨w.heap.size + 1, 0, none⟩ = some (.int .i64 kb) ∧ W'.cell? ⟨w.heap.size + 1, 1, none⟩ = some (.string ⟨sb.toArray⟩) ∧ W'.cell? ⟨w.heap.size + 1, 2, none⟩ = some (.slice bF fb.length dF) ∧ W'.cell? ⟨w.heap.size + 1, 3, none⟩ = some (.slice bL wb.length dL) ∧ W'.cell? ⟨w.heap.size + 1, 4, none⟩ = some (.int .i64 xb) ∧ Below W2.heap.size W2 W')
        (with_reducible exact HS)
        (first
          | (go_at_call 10; (with_reducible refine (HHM.out _ HS.2.2.2.2.2.2.2.2.2.2).mono ?_); rintro e w1 ⟨rfl, hb⟩; replace HS := allS_next HS hb; clear hb)
          | (go_at_call 11; (with_reducible refine (HHR.out _ HS.2.2.2.2.2.2.2.2.2.2).mono ?_); rintro e w1 ⟨rfl, hb⟩; replace HS := allS_next HS hb; clear hb)
          | (go_at_call 12; (with_reducible refine (HHAL.out _ HS.2.2.2.2.2.2.2.2.2.2).mono ?_); rintro e w1 ⟨rfl, hb⟩; replace HS := allS_next HS hb; clear hb)
          | (go_at_call 13; (with_reducible refine (HHRA.out _ HS.2.2.2.2.2.2.2.2.2.2).mono ?_); rintro e w1 ⟨rfl, hb⟩; replace HS := allS_next HS hb; clear hb)
          | (go_at_call 14; (with_reducible refine (HHT.out _ HS.2.2.2.2.2.2.2.2.2.2).mono ?_); rintro e w1 ⟨rfl, hb⟩; replace HS := allS_next HS hb; clear hb)
          | (go_at_call 15; (with_reducible refine (HHRT.out _ HS.2.2.2.2.2.2.2.2.2.2).mono ?_); rintro e w1 ⟨rfl, hb⟩; replace HS := allS_next HS hb; clear hb)
          | (go_at_call 16; (with_reducible refine (HHS.out _ HS.2.2.2.2.2.2.2.2.2.2).mono ?_); rintro e w1 ⟨rfl, hb⟩; replace HS := allS_next HS hb; clear hb)
          | (go_at_call 18; (with_reducible refine (HHC.out _ HS.2.2.2.2.2.2.2.2.2.2).mono ?_); rintro e w1 ⟨eF, gF, eL, gL, rfl, hF, hL, hb⟩; have HFC := Lib.hid hF; have HLC := Lib.hid hL; replace HS := allS_next HS hb; clear hb hF hL)
          | (go_at_call 9; (with_reducible refine (awake_any _).mono ?_); rintro e w1 ⟨rfl, hb⟩; replace HS := allS_next HS hb; clear hb)
          | (go_at_call 17; (with_reducible refine (HHRS.out _ HS.2.2.2.2.2.2.2.2.2.2).mono ?_); rintro e w1 ⟨rfl, hb⟩; replace HS := allS_next HS hb; clear hb)
          | (go_at_call 17; (with_reducible refine (HHCS.out _ HS.2.2.2.2.2.2.2.2.2.2 _ _ _ _ HFC.out HLC.out).mono ?_); rintro e w1 ⟨rfl, hb⟩; replace HS := allS_next HS hb; clear hb))
      go_wp2
      go_ret
      exact ⟨rfl, HB2.out.trans (HS.2.2.2.2.2.2.2.2.2.2.mono HB2.out.size)⟩
end Go.Proofs.Ytdnonginlbjcoaa
