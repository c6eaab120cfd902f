/- The walk of DumpApart: two items by numbers have one text just if they are alike. -/
import Derived.Test.YtbkhnnjjpelfcaaGreatDoorDpLaw
import Derived.Test.YtbkhnnjjpelfcaaGreatDoorDpMade
import Derived.Test.YtbkhnnjjpelfcaaGreatDoorItSame
import Derived.Deep.RegionHeld3
namespace Go.Proofs.YtbkhnnjjpelfcaaGreatDoor
open Go.RowKit Go.Shelf
set_option linter.unusedVariables false
set_option linter.unusedSimpArgs false

set_option maxRecDepth 100000 in
set_option maxHeartbeats 8000000 in
theorem dumpApart_go (p p2 : Option Addr) (cap cap2 : Nat) (ns ms : List UInt8) (x y : Int) (w : World) (hx0 : 0 ≤ x) (hx1 : x ≤ 255) (hy0 : 0 ≤ y) (hy1 : y ≤ 255) (hB : Bytes w p ns) (hB2 : Bytes w p2 ms) (hl : ns.length ≤ 9223372036854775807) (hl2 : ms.length ≤ 9223372036854775807) (henv : Env w) :
    Calls Tryz.prog 5 #[.slice p ns.length cap, .slice p2 ms.length cap2, .int .u8 x, .int .u8 y] w fun e W' => e = .returned (.bool true) ∧ Below w.heap.size w W' := by
  have hma := make_any p cap ns x w hx0 hx1 hB hl
  have hmb := fun W (h : Below w.heap.size w W) => make_any p2 cap2 ms y W hy0 hy1 (hB2.later h) hl2
  have hva := make_may ns x hx0 hx1
  have hvb := make_may ms y hy0 hy1
  generalize Mk.mk ns x = I at *
  generalize Mk.mk ms y = J at *
  have HMA := Lib.hid hma
  have HMB := Lib.hid hmb
  have HVA := Lib.hid hva
  have HVB := Lib.hid hvb
  have HE := Lib.hid henv
  obtain ⟨ka, sa, fa, la, xa⟩ := I
  obtain ⟨kb, sb, fb, lb, xb⟩ := J
  clear hma hmb hva hvb henv hB hB2
  go_enter Tryz.func5, Tryz.ntmps5
  go_wp2_with fail
  refine HMA.out.mono ?_
  rintro e w1 ⟨aF, aC, aL, aD, rfl, hFa, hLa, hb⟩
  have HB1 := Lib.hid hb
  have HFA := Lib.hid hFa
  have HLA := Lib.hid hLa
  clear hFa hLa hb HMA
  simp only
  unfold itv
  go_wp2_with fail
  refine (HMB.out w1 HB1.out).mono ?_
  rintro e w2 ⟨bF, bC, bL, bD, rfl, hFb, hLb, hb⟩
  have HB2 := Lib.hid (HB1.out.trans (hb.mono HB1.out.size))
  have hFa := HFA.out.later hb
  have hLa := HLA.out.later hb
  clear HFA HLA HMB HB1 hb
  simp only at hFa hLa hFb hLb ⊢
  unfold itv
  obtain ⟨W4, hW4⟩ : ∃ W4, (w2.alloc (.cells #[.int .i64 ka, .string ⟨sa.toArray⟩, .slice aF fa.length aC, .slice aL la.length aD, .int .i64 xa] 25)).alloc (.cells #[.int .i64 kb, .string ⟨sb.toArray⟩, .slice bF fb.length bC, .slice bL lb.length bD, .int .i64 xb] 25) = W4 := ⟨_, rfl⟩
  have hb4 : Below w2.heap.size w2 W4 := by rw [← hW4]; exact ((Below.refl _ w2).alloc (Nat.le_refl _) _).alloc (by simp) _
  have hxa : ItBox W4 w2.heap.size ka sa aF fa.length aC aL la.length aD xa := by
    rw [← hW4]
    exact ItBox.later (ItBox.new w2 ka sa aF fa.length aC aL la.length aD xa) ((Below.refl _ _).alloc (Nat.le_refl _) _)
  have hxb : ItBox W4 (w2.heap.size + 1) kb sb bF fb.length bC bL lb.length bD xb := by
    rw [← hW4]
    have := ItBox.new (w2.alloc (itc ka sa aF fa.length aC aL la.length aD xa)) kb sb bF fb.length bC bL lb.length bD xb
    rwa [World.size_alloc] at this
  have hFa4 := hFa.later hb4
  have hLa4 := hLa.later hb4
  have hFb4 := hFb.later hb4
  have hLb4 := hLb.later hb4
  have he4 := HE.out.later (HB2.out.trans (hb4.mono HB2.out.size))
  obtain ⟨B1, hB1⟩ : ∃ B1, w2.heap.size = B1 := ⟨_, rfl⟩
  obtain ⟨B2, hBB⟩ : ∃ B2, w2.heap.size + 1 = B2 := ⟨_, rfl⟩
  have hlen : fa.length ≤ 1000000 ∧ la.length ≤ 1000000 ∧ fb.length ≤ 1000000 ∧ lb.length ≤ 1000000 := by
    have h1 := may_lens HVA.out
    have h2 := may_lens HVB.out
    simp only at h1 h2
    omega
  obtain ⟨m1, m2, m3, m4⟩ := hlen
  have hpa := fun W (h : Below W4.heap.size W4 W) => dput_any ka xa sa aF aC fa aL aD la W (hFa4.later h) (hLa4.later h) m1 m2 (he4.later h)
  have hpb := fun W (h : Below W4.heap.size W4 W) => dput_any kb xb sb bF bC fb bL bD lb W (hFb4.later h) (hLb4.later h) m3 m4 (he4.later h)
  have hsm := fun W (h : Below W4.heap.size W4 W) => refSame_any ka kb xa xb sa sb aF bF aC bC fa fb aL bL aD bD la lb W (hFa4.later h) (hFb4.later h) (hLa4.later h) (hLb4.later h)
  have haw := fun W (h : Below W4.heap.size W4 W) => awake_any W (he4.later h)
  rw [same_iff HVA.out] at hsm
  have hne := Dp.put_ne HVA.out
  obtain ⟨P1, hP1⟩ : ∃ P1 : List UInt8, Dp.putS ⟨ka, sa, fa, la, xa⟩ = P1 := ⟨_, rfl⟩
  obtain ⟨P2, hP2⟩ : ∃ P2 : List UInt8, Dp.putS ⟨kb, sb, fb, lb, xb⟩ = P2 := ⟨_, rfl⟩
  rw [hP1, hP2] at hsm
  rw [hP1] at hpa hne
  rw [hP2] at hpb
  have hne2 : List.isEmpty P1 = false := by cases P1 with
    | nil => exact absurd rfl hne
    | cons => rfl
  unfold itv at hpa hpb hsm
  have HPA := Lib.hid hpa
  have HPB := Lib.hid hpb
  have HSM := Lib.hid hsm
  have HAW := Lib.hid haw
  have HB4 := Lib.hid (HB2.out.trans (hb4.mono HB2.out.size))
  obtain ⟨c0, c1, c2, c3, c4⟩ := hxa.at
  obtain ⟨d0, d1, d2, d3, d4⟩ := hxb.at
  rw [hB1] at c0 c1 c2 c3 c4
  rw [hBB] at d0 d1 d2 d3 d4
  have HS : W4.drew.cell? ⟨B1, 0, none⟩ = some (.int .i64 ka) ∧ W4.drew.cell? ⟨B1, 1, none⟩ = some (.string ⟨sa.toArray⟩) ∧ W4.drew.cell? ⟨B1, 2, none⟩ = some (.slice aF fa.length aC) ∧ W4.drew.cell? ⟨B1, 3, none⟩ = some (.slice aL la.length aD) ∧ W4.drew.cell? ⟨B1, 4, none⟩ = some (.int .i64 xa) ∧ W4.drew.cell? ⟨B2, 0, none⟩ = some (.int .i64 kb) ∧ W4.drew.cell? ⟨B2, 1, none⟩ = some (.string ⟨sb.toArray⟩) ∧ W4.drew.cell? ⟨B2, 2, none⟩ = some (.slice bF fb.length bC) ∧ W4.drew.cell? ⟨B2, 3, none⟩ = some (.slice bL lb.length bD) ∧ W4.drew.cell? ⟨B2, 4, none⟩ = some (.int .i64 xb) ∧ Below W4.heap.size W4 W4.drew :=
    ⟨(World.cell?_drew _ _).trans c0, (World.cell?_drew _ _).trans c1, (World.cell?_drew _ _).trans c2, (World.cell?_drew _ _).trans c3, (World.cell?_drew _ _).trans c4, (World.cell?_drew _ _).trans d0, (World.cell?_drew _ _).trans d1, (World.cell?_drew _ _).trans d2, (World.cell?_drew _ _).trans d3, (World.cell?_drew _ _).trans d4, (Below.refl _ W4).drew⟩
  have HW4 := Lib.hid hW4
  have HBB1 := Lib.hid hB1
  have HBB2 := Lib.hid hBB
  clear hW4 hb4 hxa hxb hFa4 hLa4 hFb4 hLb4 he4 hpa hpb hsm haw c0 c1 c2 c3 c4 d0 d1 d2 d3 d4 hB1 hBB hFa hLa hFb hLb hP1 hP2 HVA HVB HE m1 m2 m3 m4 hl hl2
  go_upto_region 2 with (fail)
  rw [show (w2.alloc (.cells #[.int .i64 ka, .string ⟨sa.toArray⟩, .slice aF fa.length aC, .slice aL la.length aD, .int .i64 xa] 25)).alloc (.cells #[.int .i64 kb, .string ⟨sb.toArray⟩, .slice bF fb.length bC, .slice bL lb.length bD, .int .i64 xb] 25) = W4 from HW4.out, HBB2.out, HBB1.out]
  clear HW4 HBB1 HBB2 HB2
  go_region_held3 (fun W' => W'.cell? ⟨B1, 0, none⟩ = some (.int .i64 ka) ∧ W'.cell? ⟨B1, 1, none⟩ = some (.string ⟨sa.toArray⟩) ∧ W'.cell? ⟨B1, 2, none⟩ = some (.slice aF fa.length aC) ∧ W'.cell? ⟨B1, 3, none⟩ = some (.slice aL la.length aD) ∧ W'.cell? ⟨B1, 4, none⟩ = some (.int .i64 xa) ∧ W'.cell? ⟨B2, 0, none⟩ = some (.int .i64 kb) ∧ W'.cell? ⟨B2, 1, none⟩ = some (.string ⟨sb.toArray⟩) ∧ W'.cell? ⟨B2, 2, none⟩ = some (.slice bF fb.length bC) ∧ W'.cell? ⟨B2, 3, none⟩ = some (.slice bL lb.length bD) ∧ W'.cell? ⟨B2, 4, none⟩ = some (.int .i64 xb) ∧ Below W4.heap.size W4 W')
        (with_reducible exact HS)
        (first
          | (go_at_call 10; (with_reducible refine (HPA.out _ HS.2.2.2.2.2.2.2.2.2.2).mono ?_); rintro e w1 ⟨rfl, hb⟩; replace HS := tenS_next HS hb; clear hb)
          | (go_at_call 10; (with_reducible refine (HPB.out _ HS.2.2.2.2.2.2.2.2.2.2).mono ?_); rintro e w1 ⟨rfl, hb⟩; replace HS := tenS_next HS hb; clear hb)
          | (go_at_call 12; (with_reducible refine (HSM.out _ HS.2.2.2.2.2.2.2.2.2.2).mono ?_); rintro e w1 ⟨rfl, hb⟩; replace HS := tenS_next HS hb; clear hb)
          | (go_at_call 7; (with_reducible refine (HAW.out _ HS.2.2.2.2.2.2.2.2.2.2).mono ?_); rintro e w1 ⟨rfl, hb⟩; replace HS := tenS_next HS hb; clear hb))
  go_wp2
  go_ret
  exact ⟨rfl, HB4.out.trans (HS.2.2.2.2.2.2.2.2.2.2.mono HB4.out.size)⟩
end Go.Proofs.YtbkhnnjjpelfcaaGreatDoor
