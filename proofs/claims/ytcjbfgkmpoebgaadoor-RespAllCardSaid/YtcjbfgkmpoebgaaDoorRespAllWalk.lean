/- The walk of the law RespAll. -/
import Derived.Test.YtcjbfgkmpoebgaaDoorRpMany
import Derived.Test.YtcjbfgkmpoebgaaDoorRpEqual
import Derived.Test.YtcjbfgkmpoebgaaDoorRpRefMayAll
import Derived.Test.YtcjbfgkmpoebgaaDoorRpRefPutAll
import Derived.Test.YtcjbfgkmpoebgaaDoorRpCaAny
import Derived.Test.YtcjbfgkmpoebgaaDoorRpAwake
import Derived.Test.YtcjbfgkmpoebgaaDoorRpSame
import Derived.Deep.RegionHeldLaw
namespace Go.Proofs.YtcjbfgkmpoebgaaDoor
open Go.RowKit Go.Shelf
attribute [local go_sem] Oper.semAt_some
set_option linter.unusedVariables false
set_option linter.unusedSimpArgs false

mutual
theorem RepW.num {w : World} : ∀ (r : Rp.R) (v : Value) (lev : Nat), RepW w r v → ∀ p ∈ Rp.heads lev r, Rp.NumOk p.1
  | .mk k s n l, v, lev, h, p, hp => by
    unfold RepW at h
    obtain ⟨a, cap, _, hf, hl⟩ := h
    unfold Rp.heads at hp
    rw [List.mem_cons] at hp
    rcases hp with rfl | hp
    · exact ⟨hf.2.2.1, hf.2.2.2.1⟩
    · rcases hl with rfl | ⟨b, off, _, _, hL⟩
      · simp [Rp.headsL] at hp
      · exact RepWL.num l b off _ hL p hp
theorem RepWL.num {w : World} : ∀ (l : List Rp.R) (b off lev : Nat), RepWL w l b off → ∀ p ∈ Rp.headsL lev l, Rp.NumOk p.1
  | [], _, _, _, _, p, hp => by simp [Rp.headsL] at hp
  | r :: l, b, off, lev, h, p, hp => by
    unfold RepWL at h
    obtain ⟨⟨v0, v1, v2, v3, _, _, _, _, hr⟩, hL⟩ := h
    unfold Rp.headsL at hp
    rw [List.mem_append] at hp
    rcases hp with hp | hp
    · exact RepW.num r _ _ hr p hp
    · exact RepWL.num l b _ _ hL p hp
end

/-- the boxes' cells, from world to world. -/
def BxA (w0 : World) (X Y : Nat) (x0 x1 x2 x3 y0 y1 y2 y3 : Value) (W : World) : Prop :=
  W.cell? ⟨X, 0, none⟩ = some x0 ∧ W.cell? ⟨X, 1, none⟩ = some x1 ∧ W.cell? ⟨X, 2, none⟩ = some x2 ∧ W.cell? ⟨X, 3, none⟩ = some x3 ∧
  W.cell? ⟨Y, 0, none⟩ = some y0 ∧ W.cell? ⟨Y, 1, none⟩ = some y1 ∧ W.cell? ⟨Y, 2, none⟩ = some y2 ∧ W.cell? ⟨Y, 3, none⟩ = some y3 ∧ Below w0.heap.size w0 W
theorem bxA_next {w0 W W' : World} {X Y : Nat} {x0 x1 x2 x3 y0 y1 y2 y3 : Value} (h : BxA w0 X Y x0 x1 x2 x3 y0 y1 y2 y3 W) (hb : Below W.heap.size W W') : BxA w0 X Y x0 x1 x2 x3 y0 y1 y2 y3 W' := by
  obtain ⟨h0, h1, h2, h3, h4, h5, h6, h7, hB⟩ := h
  have step : ∀ {p : Addr} {v : Value}, W.cell? p = some v → W'.cell? p = some v := fun h => (hb.cell (World.block_lt_of_cell? W _ h)).trans h
  exact ⟨step h0, step h1, step h2, step h3, step h4, step h5, step h6, step h7, hB.trans (hb.mono hB.size)⟩

/-- what all of them tell of one reply that is not great. -/
theorem all_one {w : World} (x : Rp.R) (a : Option Addr) (c : Nat) (hx : RepW w x (rv x.k x.s x.n a x.l.length c)) (hg : ¬ 400 < Rp.manyR 0 x) (henv : Env w) :
    RepA w x (rv x.k x.s x.n a x.l.length c) ∧
    (∀ W, Below w.heap.size w W → Calls Tryd.prog 11 #[.agg #[.int .i64 x.k, .string ⟨x.s.toArray⟩, .int .i64 x.n, .slice a x.l.length c]] W fun e W' => e = .returned (.bool (Rp.mayB x)) ∧ Below W.heap.size W W') ∧
    (∀ W, Below w.heap.size w W → Calls Tryd.prog 12 #[.agg #[.int .i64 x.k, .string ⟨x.s.toArray⟩, .int .i64 x.n, .slice a x.l.length c]] W fun e W' => e = .returned (.bool (Rp.mayB x)) ∧ Below W.heap.size W W') ∧
    (∀ W, Below w.heap.size w W → Calls Tryd.prog 13 #[.agg #[.int .i64 x.k, .string ⟨x.s.toArray⟩, .int .i64 x.n, .slice a x.l.length c]] W fun e W' => ∃ pa pc, e = .returned (.slice pa (Rp.putB x).length pc) ∧ Bt (fun i => i < W'.heap.size) W' pa pc (Rp.putB x) ∧ Below W.heap.size W W') ∧
    (∀ W, Below w.heap.size w W → Calls Tryd.prog 14 #[.agg #[.int .i64 x.k, .string ⟨x.s.toArray⟩, .int .i64 x.n, .slice a x.l.length c]] W fun e W' => e = .returned (.string ⟨(Rp.putB x).toArray⟩) ∧ Below W.heap.size W W') := by
  obtain ⟨hlen, hsm⟩ := Rp.small_of x 0 0 (by omega)
  have hA : RepA w x (rv x.k x.s x.n a x.l.length c) := RepW.rep x _ hx hsm
  have hnum := RepW.num x _ 0 hx
  have hcas : AllQ CAQ (Rp.heads 0 x) := fun p _ _ => ca_any _
  have hn : (Rp.heads 0 x).length ≤ 400 := by omega
  have henc : (Rp.enc x).length ≤ 900000 := by
    have := Rp.enc_le x 0 (fun p hp => ⟨hsm p hp, hnum p hp⟩)
    omega
  refine ⟨hA, fun W hb => ?_, fun W hb => ?_, fun W hb => ?_, fun W hb => ?_⟩
  · exact callsIn_wide.1 (may_any x a c W (by omega) hcas ((hA.later hb).mono fun k _ h => h))
  · exact mayReply_any x a c W (hA.later hb)
  · refine (callsIn_wide.1 (put_any x a c W (by omega) hcas (henv.later hb) ((hA.later hb).mono fun k _ h => h))).mono ?_
    rintro e W' ⟨v, rfl, hbuf, hbw⟩
    obtain ⟨pa, pc, rfl, hbt⟩ := hbuf.bt
    exact ⟨pa, pc, rfl, hbt, hbw⟩
  · exact putReply_any x a c W (hA.later hb) (fun _ => henc)

set_option maxRecDepth 100000 in
set_option maxHeartbeats 16000000 in
theorem respAll_go (x y : Rp.R) (ax ay : Option Addr) (cx cy : Nat) (w : World) (hx : RepW w x (rv x.k x.s x.n ax x.l.length cx)) (hy : RepW w y (rv y.k y.s y.n ay y.l.length cy)) (henv : Env w) :
    Calls Tryd.prog 3 #[rv x.k x.s x.n ax x.l.length cx, rv y.k y.s y.n ay y.l.length cy] w fun e w' => e = .returned (.bool true) ∧ Below w.heap.size w w' := by
  obtain ⟨w1, hw1⟩ : ∃ w1, (w.alloc (.cells #[.int .i64 x.k, .string ⟨x.s.toArray⟩, .int .i64 x.n, .slice ax x.l.length cx] 24)).alloc (.cells #[.int .i64 y.k, .string ⟨y.s.toArray⟩, .int .i64 y.n, .slice ay y.l.length cy] 24) = w1 := ⟨_, rfl⟩
  have hb1 : Below w.heap.size w w1 := by rw [← hw1]; exact ((Below.refl _ w).alloc (Nat.le_refl _) _).alloc (by simp) _
  have hs1 : w1.heap.size = w.heap.size + 2 := by rw [← hw1]; simp
  have hpx : w1.heap[w.heap.size]? = some (.cells #[.int .i64 x.k, .string ⟨x.s.toArray⟩, .int .i64 x.n, .slice ax x.l.length cx] 24 (0, 0)) := by
    rw [← hw1]
    exact (((Below.refl (w.heap.size + 1) _).alloc (by simp) _).block _ (by omega)).trans (World.alloc_heap_new w _)
  have hpy : w1.heap[w.heap.size + 1]? = some (.cells #[.int .i64 y.k, .string ⟨y.s.toArray⟩, .int .i64 y.n, .slice ay y.l.length cy] 24 (0, 0)) := by
    rw [← hw1]
    have := World.alloc_heap_new (w.alloc (.cells #[.int .i64 x.k, .string ⟨x.s.toArray⟩, .int .i64 x.n, .slice ax x.l.length cx] 24)) (.cells #[.int .i64 y.k, .string ⟨y.s.toArray⟩, .int .i64 y.n, .slice ay y.l.length cy] 24)
    simpa using this
  obtain ⟨x0, x1, x2, x3⟩ := cells_four hpx
  obtain ⟨y0, y1, y2, y3⟩ := cells_four hpy
  have hx1 := RepW.later hb1 _ _ hx
  have hy1 := RepW.later hb1 _ _ hy
  have henv1 := henv.later hb1
  have HS1 : BxA w1 w.heap.size (w.heap.size + 1) (.int .i64 x.k) (.string ⟨x.s.toArray⟩) (.int .i64 x.n) (.slice ax x.l.length cx) (.int .i64 y.k) (.string ⟨y.s.toArray⟩) (.int .i64 y.n) (.slice ay y.l.length cy) w1 :=
    ⟨x0, x1, x2, x3, y0, y1, y2, y3, Below.refl _ _⟩
  have HGX := Lib.hid (great_any x ax cx w1 hx1)
  have HGY := Lib.hid (fun W (hW : Below w1.heap.size w1 W) => great_any y ay cy W (RepW.later hW _ _ hy1))
  have HAW := Lib.hid (fun W (hW : Below w1.heap.size w1 W) => awake_any W (henv1.later hW))
  have HB1 := Lib.hid hb1
  have HW1 := Lib.hid hw1
  have HX1 := Lib.hid hx1
  have HY1 := Lib.hid hy1
  have HE1 := Lib.hid henv1
  clear hw1 hb1 hpx hpy hx hy hx1 hy1 henv henv1 x0 x1 x2 x3 y0 y1 y2 y3
  unfold rv at HGX HGY ⊢
  by_cases hgx : 400 < Rp.manyR 0 x
  · rw [decide_eq_true hgx] at HGX
    obtain ⟨x0, x1, x2, x3, y0, y1, y2, y3, -⟩ := HS1
    clear hgx
    go_enter Tryd.func3, Tryd.ntmps3
    go_upto_region 1 with (fail)
    rw [show (w.alloc (.cells #[.int .i64 x.k, .string ⟨x.s.toArray⟩, .int .i64 x.n, .slice ax x.l.length cx] 24)).alloc (.cells #[.int .i64 y.k, .string ⟨y.s.toArray⟩, .int .i64 y.n, .slice ay y.l.length cy] 24) = w1 from HW1.out]
    clear HW1
    go_wp2_with fail
    refine HGX.out.mono ?_
    rintro e w2 ⟨rfl, hb2⟩
    go_wp2_with fail
    refine (HAW.out w2 hb2).mono ?_
    rintro e w3 ⟨rfl, hb3⟩
    go_wp2
    go_ret
    exact ⟨rfl, HB1.out.trans ((hb2.trans (hb3.mono hb2.size)).mono HB1.out.size)⟩
  rw [decide_eq_false hgx] at HGX
  by_cases hgy : 400 < Rp.manyR 0 y
  · rw [decide_eq_true hgy] at HGY
    clear hgx hgy
    have HS := HS1
    clear HS1
    obtain ⟨x0, x1, x2, x3, y0, y1, y2, y3, -⟩ := id HS
    go_enter Tryd.func3, Tryd.ntmps3
    go_upto_region 1 with (fail)
    rw [show (w.alloc (.cells #[.int .i64 x.k, .string ⟨x.s.toArray⟩, .int .i64 x.n, .slice ax x.l.length cx] 24)).alloc (.cells #[.int .i64 y.k, .string ⟨y.s.toArray⟩, .int .i64 y.n, .slice ay y.l.length cy] 24) = w1 from HW1.out]
    clear HW1
    go_wp2_with fail
    refine HGX.out.mono ?_
    rintro e w2 ⟨rfl, hb2⟩
    replace HS := bxA_next HS hb2
    clear x0 x1 x2 x3 y0 y1 y2 y3
    obtain ⟨x0, x1, x2, x3, y0, y1, y2, y3, -⟩ := id HS
    go_wp2_with fail
    refine (HGY.out w2 hb2).mono ?_
    rintro e w3 ⟨rfl, hb3⟩
    have hb13 := hb2.trans (hb3.mono hb2.size)
    go_wp2_with fail
    refine (HAW.out w3 hb13).mono ?_
    rintro e w4 ⟨rfl, hb4⟩
    go_wp2
    go_ret
    exact ⟨rfl, HB1.out.trans ((hb13.trans (hb4.mono hb13.size)).mono HB1.out.size)⟩
  rw [decide_eq_false hgy] at HGY
  have HAX := Lib.hid (all_one x ax cx HX1.out hgx HE1.out)
  have HAY := Lib.hid (RepW.rep y _ HY1.out (Rp.small_of y 0 0 (by omega)).2)
  clear hgx hgy
  have HS := HS1
  clear HS1
  obtain ⟨x0, x1, x2, x3, y0, y1, y2, y3, -⟩ := id HS
  go_enter Tryd.func3, Tryd.ntmps3
  go_upto_region 1 with (fail)
  rw [show (w.alloc (.cells #[.int .i64 x.k, .string ⟨x.s.toArray⟩, .int .i64 x.n, .slice ax x.l.length cx] 24)).alloc (.cells #[.int .i64 y.k, .string ⟨y.s.toArray⟩, .int .i64 y.n, .slice ay y.l.length cy] 24) = w1 from HW1.out]
  clear HW1
  go_wp2_with fail
  refine HGX.out.mono ?_
  rintro e w2 ⟨rfl, hb2⟩
  replace HS := bxA_next HS hb2
  clear x0 x1 x2 x3 y0 y1 y2 y3
  obtain ⟨x0, x1, x2, x3, y0, y1, y2, y3, -⟩ := id HS
  go_wp2_with fail
  refine (HGY.out w2 hb2).mono ?_
  rintro e w3 ⟨rfl, hb3⟩
  have hb13 := hb2.trans (hb3.mono hb2.size)
  replace HS := bxA_next HS hb3
  clear x0 x1 x2 x3 y0 y1 y2 y3
  have HB3 := Lib.hid hb13
  clear hb2 hb3 hb13 HGX HGY
  go_upto_region 3 with (fail)
  have hd : Below w1.heap.size w1 w3.drew := HB3.out.drew
  obtain ⟨cA, cM, cRM, cP, cRP⟩ := HAX.out
  have HS3 : BxA w3.drew w.heap.size (w.heap.size + 1) (.int .i64 x.k) (.string ⟨x.s.toArray⟩) (.int .i64 x.n) (.slice ax x.l.length cx) (.int .i64 y.k) (.string ⟨y.s.toArray⟩) (.int .i64 y.n) (.slice ay y.l.length cy) w3.drew := by
    obtain ⟨x0, x1, x2, x3, y0, y1, y2, y3, -⟩ := id HS
    exact ⟨(World.cell?_drew _ _).trans x0, (World.cell?_drew _ _).trans x1, (World.cell?_drew _ _).trans x2, (World.cell?_drew _ _).trans x3, (World.cell?_drew _ _).trans y0, (World.cell?_drew _ _).trans y1, (World.cell?_drew _ _).trans y2, (World.cell?_drew _ _).trans y3, Below.refl _ _⟩
  have hto : ∀ W, Below w3.drew.heap.size w3.drew W → Below w1.heap.size w1 W := fun W h => hd.trans (h.mono hd.size)
  have CM := Lib.hid (fun W (hW : Below w3.drew.heap.size w3.drew W) => cM W (hto W hW))
  have CRM := Lib.hid (fun W (hW : Below w3.drew.heap.size w3.drew W) => cRM W (hto W hW))
  have CP := Lib.hid (fun W (hW : Below w3.drew.heap.size w3.drew W) => cP W (hto W hW))
  have CRP := Lib.hid (fun W (hW : Below w3.drew.heap.size w3.drew W) => cRP W (hto W hW))
  have CAW := Lib.hid (fun W (hW : Below w3.drew.heap.size w3.drew W) => HAW.out W (hto W hW))
  have CRS : Hid (∀ W, Below w3.drew.heap.size w3.drew W → Calls Tryd.prog 16 #[.agg #[.int .i64 x.k, .string ⟨x.s.toArray⟩, .int .i64 x.n, .slice ax x.l.length cx], .agg #[.int .i64 y.k, .string ⟨y.s.toArray⟩, .int .i64 y.n, .slice ay y.l.length cy]] W fun e W' => e = .returned (.bool (Rp.eqR x y)) ∧ Below W.heap.size W W') := Lib.hid (fun W hW => refSame_any _ x y ax ay cx cy W (Nat.le_refl _) (cA.later (hto W hW)) (HAY.out.later (hto W hW)))
  have CS : Hid (∀ W, Below w3.drew.heap.size w3.drew W → Calls Tryd.prog 15 #[.agg #[.int .i64 x.k, .string ⟨x.s.toArray⟩, .int .i64 x.n, .slice ax x.l.length cx], .agg #[.int .i64 y.k, .string ⟨y.s.toArray⟩, .int .i64 y.n, .slice ay y.l.length cy]] W fun e W' => e = .returned (.bool (Rp.eqR x y)) ∧ Below W.heap.size W W') := Lib.hid (fun W hW => same_any _ x y ax ay cx cy W (Nat.le_refl _) (cA.later (hto W hW)) (HAY.out.later (hto W hW)))
  have CSX : Hid (∀ W, Below w3.drew.heap.size w3.drew W → Calls Tryd.prog 15 #[.agg #[.int .i64 x.k, .string ⟨x.s.toArray⟩, .int .i64 x.n, .slice ax x.l.length cx], .agg #[.int .i64 x.k, .string ⟨x.s.toArray⟩, .int .i64 x.n, .slice ax x.l.length cx]] W fun e W' => e = .returned (.bool true) ∧ Below W.heap.size W W') := Lib.hid (fun W hW => by
    have := same_any _ x x ax ax cx cx W (Nat.le_refl _) (cA.later (hto W hW)) (cA.later (hto W hW))
    rw [Rp.eqR_refl] at this
    exact this)
  have HT := Lib.hid hto
  clear cA cM cRM cP cRP hto HAX HAY HX1 HY1 HE1 HAW HS hd
  generalize Rp.mayB x = M at *
  generalize Rp.eqR x y = E at *
  generalize Rp.putB x = P at *
  have HS := HS3
  clear HS3
  unfold BxA at HS
  go_region_held_law (fun W => W.cell? ⟨w.heap.size, 0, none⟩ = some (.int .i64 x.k) ∧ W.cell? ⟨w.heap.size, 1, none⟩ = some (.string ⟨x.s.toArray⟩) ∧ W.cell? ⟨w.heap.size, 2, none⟩ = some (.int .i64 x.n) ∧ W.cell? ⟨w.heap.size, 3, none⟩ = some (.slice ax x.l.length cx) ∧ W.cell? ⟨w.heap.size + 1, 0, none⟩ = some (.int .i64 y.k) ∧ W.cell? ⟨w.heap.size + 1, 1, none⟩ = some (.string ⟨y.s.toArray⟩) ∧ W.cell? ⟨w.heap.size + 1, 2, none⟩ = some (.int .i64 y.n) ∧ W.cell? ⟨w.heap.size + 1, 3, none⟩ = some (.slice ay y.l.length cy) ∧ Below w3.drew.heap.size w3.drew W)
    (with_reducible exact HS)
    (first
      | (go_at_call 11; (with_reducible refine (CM.out _ HS.2.2.2.2.2.2.2.2).mono ?_); rintro e w1 ⟨rfl, hb⟩; replace HS := bxA_next HS hb; unfold BxA at HS; (try (replace HBT := Bt.later HBT hb; replace hcv := HBT.conv)); clear hb)
      | (go_at_call 12; (with_reducible refine (CRM.out _ HS.2.2.2.2.2.2.2.2).mono ?_); rintro e w1 ⟨rfl, hb⟩; replace HS := bxA_next HS hb; unfold BxA at HS; (try (replace HBT := Bt.later HBT hb; replace hcv := HBT.conv)); clear hb)
      | (go_at_call 13; (with_reducible refine (CP.out _ HS.2.2.2.2.2.2.2.2).mono ?_); rintro e w1 ⟨pa, pc, rfl, HBT, hb⟩; replace HS := bxA_next HS hb; unfold BxA at HS; have hcv := HBT.conv; clear hb)
      | (go_at_call 14; (with_reducible refine (CRP.out _ HS.2.2.2.2.2.2.2.2).mono ?_); rintro e w1 ⟨rfl, hb⟩; replace HS := bxA_next HS hb; unfold BxA at HS; (try (replace HBT := Bt.later HBT hb; replace hcv := HBT.conv)); clear hb)
      | (go_at_call 15; (with_reducible refine (CS.out _ HS.2.2.2.2.2.2.2.2).mono ?_); rintro e w1 ⟨rfl, hb⟩; replace HS := bxA_next HS hb; unfold BxA at HS; (try (replace HBT := Bt.later HBT hb; replace hcv := HBT.conv)); clear hb)
      | (go_at_call 15; (with_reducible refine (CSX.out _ HS.2.2.2.2.2.2.2.2).mono ?_); rintro e w1 ⟨rfl, hb⟩; replace HS := bxA_next HS hb; unfold BxA at HS; (try (replace HBT := Bt.later HBT hb; replace hcv := HBT.conv)); clear hb)
      | (go_at_call 16; (with_reducible refine (CRS.out _ HS.2.2.2.2.2.2.2.2).mono ?_); rintro e w1 ⟨rfl, hb⟩; replace HS := bxA_next HS hb; unfold BxA at HS; (try (replace HBT := Bt.later HBT hb; replace hcv := HBT.conv)); clear hb)
      | (go_at_call 10; (with_reducible refine (CAW.out _ HS.2.2.2.2.2.2.2.2).mono ?_); rintro e w1 ⟨rfl, hb⟩; replace HS := bxA_next HS hb; unfold BxA at HS; (try (replace HBT := Bt.later HBT hb; replace hcv := HBT.conv)); clear hb))
  all_goals
    go_wp2
    go_ret
    exact ⟨rfl, HB1.out.trans ((HT.out _ HS.2.2.2.2.2.2.2.2).mono HB1.out.size)⟩
end Go.Proofs.YtcjbfgkmpoebgaaDoor
