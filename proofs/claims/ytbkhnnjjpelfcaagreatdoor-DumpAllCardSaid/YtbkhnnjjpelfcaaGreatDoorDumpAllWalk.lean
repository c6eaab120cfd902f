/- The walk of DumpAll: what any item is as a text, and what any text says, is what the reference tells. -/
import Derived.Test.YtbkhnnjjpelfcaaGreatDoorDpLaw
import Derived.Test.YtbkhnnjjpelfcaaGreatDoorDpRefGood
import Derived.Test.YtbkhnnjjpelfcaaGreatDoorItSame
import Derived.Test.YtbkhnnjjpelfcaaGreatDoorItGreat
import Derived.Deep.RegionHeld3
namespace Go.Proofs.YtbkhnnjjpelfcaaGreatDoor
open Go.RowKit Go.Shelf
set_option linter.unusedVariables false
set_option linter.unusedSimpArgs false

/-- the item, or zero. -/
def orZ (o : Option It.I) : It.I := o.getD ⟨0, [], [], [], 0⟩
theorem iout_at {o : Option It.I} {w W : World} {e : Ending} (h : IOut o w e W) : ∃ aF cF aL cL, e = .returned (.tuple #[itv (orZ o).kind (orZ o).s aF (orZ o).f.length cF aL (orZ o).l.length cL (orZ o).exp, .bool o.isSome]) ∧ Fds W aF cF (orZ o).f ∧ Wds W aL cL (orZ o).l ∧ Below w.heap.size w W := by
  cases o with
  | none => exact ⟨none, 0, none, 0, h.2, fds_nil W, wds_nil W, h.1⟩
  | some i =>
    obtain ⟨hb, aF, cF, aL, cL, he, hF, hL, -⟩ := h
    exact ⟨aF, cF, aL, cL, he, hF, hL, hb⟩
theorem rout_at {o : Option It.I} {w W : World} {e : Ending} (h : ROut5 o w e W) : ∃ aF cF aL cL, e = .returned (.agg #[.int .i64 (orZ o).kind, .string ⟨(orZ o).s.toArray⟩, .slice aF (orZ o).f.length cF, .slice aL (orZ o).l.length cL, .int .i64 (orZ o).exp, .bool o.isSome]) ∧ Fds W aF cF (orZ o).f ∧ Wds W aL cL (orZ o).l ∧ Below w.heap.size w W := by
  cases o with
  | none => exact ⟨none, 0, none, 0, h.2, fds_nil W, wds_nil W, h.1⟩
  | some i =>
    obtain ⟨hb, aF, cF, aL, cL, he, hF, hL⟩ := h
    exact ⟨aF, cF, aL, cL, he, hF, hL, hb⟩
theorem rget_any (X : List UInt8) (w : World) (hl : X.length ≤ 3000) : Calls Tryz.prog 9 #[.string ⟨X.toArray⟩] w (ROut5 (Dp.getS X) w) := by
  rw [← Dp.ref_get]
  by_cases h2 : X.length < 2
  · rw [show Dp.refS X = none by unfold Dp.refS; rw [if_pos h2]]
    exact rget_few X w h2
  cases h : Rp.replyD 8 X with
  | err c =>
    rw [show Dp.refS X = none by unfold Dp.refS; rw [if_neg h2, h]]
    exact rget_err X w (by omega) hl c h
  | ok r t =>
    by_cases hg : r.k = 6 ∧ t.length = 2 ∧ 3 ≤ r.l.length
    · rw [show Dp.refS X = getR X (Dp.candI (Tx.numS ((r.l.map (·.s)).getD 0 [])).1 (Tx.numS ((r.l.map (·.s)).getD 1 [])).1 (r.l.map (·.s))) by unfold Dp.refS getR; rw [if_neg h2, h]; simp only; rw [if_pos hg]]
      exact rget_good X w (by omega) hl r t h hg.1 hg.2.1 hg.2.2
    · rw [show Dp.refS X = none by unfold Dp.refS; rw [if_neg h2, h]; simp only; rw [if_neg hg]]
      exact rget_bad X w (by omega) hl r t h hg
theorem sixS_next {W A B : World} {p0 p1 p2 p3 p4 p5 p6 p7 p8 p9 p10 p11 p12 p13 p14 p15 : Addr} {v0 v1 v2 v3 v4 v5 v6 v7 v8 v9 v10 v11 v12 v13 v14 v15 : Value} (h : A.cell? p0 = some v0 ∧ A.cell? p1 = some v1 ∧ A.cell? p2 = some v2 ∧ A.cell? p3 = some v3 ∧ A.cell? p4 = some v4 ∧ A.cell? p5 = some v5 ∧ A.cell? p6 = some v6 ∧ A.cell? p7 = some v7 ∧ A.cell? p8 = some v8 ∧ A.cell? p9 = some v9 ∧ A.cell? p10 = some v10 ∧ A.cell? p11 = some v11 ∧ A.cell? p12 = some v12 ∧ A.cell? p13 = some v13 ∧ A.cell? p14 = some v14 ∧ A.cell? p15 = some v15 ∧ Below W.heap.size W A) (hb : Below A.heap.size A B) :
    B.cell? p0 = some v0 ∧ B.cell? p1 = some v1 ∧ B.cell? p2 = some v2 ∧ B.cell? p3 = some v3 ∧ B.cell? p4 = some v4 ∧ B.cell? p5 = some v5 ∧ B.cell? p6 = some v6 ∧ B.cell? p7 = some v7 ∧ B.cell? p8 = some v8 ∧ B.cell? p9 = some v9 ∧ B.cell? p10 = some v10 ∧ B.cell? p11 = some v11 ∧ B.cell? p12 = some v12 ∧ B.cell? p13 = some v13 ∧ B.cell? p14 = some v14 ∧ B.cell? p15 = some v15 ∧ Below W.heap.size W B := by
  obtain ⟨h0, h1, h2, h3, h4, h5, h6, h7, h8, h9, h10, h11, h12, h13, h14, h15, h16⟩ := h
  exact ⟨dp_cell h0 hb, dp_cell h1 hb, dp_cell h2 hb, dp_cell h3 hb, dp_cell h4 hb, dp_cell h5 hb, dp_cell h6 hb, dp_cell h7 hb, dp_cell h8 hb, dp_cell h9 hb, dp_cell h10 hb, dp_cell h11 hb, dp_cell h12 hb, dp_cell h13 hb, dp_cell h14 hb, dp_cell h15 hb, h16.trans (hb.mono h16.size)⟩

set_option maxRecDepth 100000 in
set_option maxHeartbeats 8000000 in
theorem dumpAll_go (k x : Int) (s : List UInt8) (aF : Option Addr) (cF : Nat) (fs : List (List UInt8 × List UInt8)) (aL : Option Addr) (cL : Nat) (ws : List (List UInt8)) (X : List UInt8) (w : World) (hF : Fds w aF cF fs) (hL : Wds w aL cL ws) (hs : s.length ≤ 9223372036854775807) (hn : aL = none → cL = 0) (hX : X.length ≤ 9223372036854775807) (henv : Env w) :
    Calls Tryz.prog 3 #[itv k s aF fs.length cF aL ws.length cL x, .string ⟨X.toArray⟩] w fun e W' => e = .returned (.bool true) ∧ Below w.heap.size w W' := by
  have hal := (Below.refl w.heap.size w).alloc (Nat.le_refl _) (itc k s aF fs.length cF aL ws.length cL x)
  have hbx := ItBox.new w k s aF fs.length cF aL ws.length cL x
  have hgr := great_any k x s aF cF fs aL cL ws _ (hF.later hal) (hL.later hal) hs
  have HAW := Lib.hid (fun W (h : Below w.heap.size w W) => awake_any W (henv.later h))
  have HFL := Lib.hid (And.intro hF (And.intro hL (And.intro hn henv)))
  have hsz : (⟨X.toArray⟩ : ByteArray).size = X.length := by simp [ByteArray.size]
  unfold itc at hal hbx hgr
  unfold itv at hgr ⊢
  have HGR := Lib.hid hgr
  have HAL := Lib.hid hal
  have HBX := Lib.hid hbx
  clear hgr hal hbx hF hL henv
  have HFN := Lib.hid (rfl : fs.length = fs.length)
  obtain ⟨nF, hnF⟩ : ∃ nF, fs.length = nF := ⟨_, rfl⟩
  obtain ⟨nL, hnL⟩ : ∃ nL, ws.length = nL := ⟨_, rfl⟩
  rw [hnF, hnL] at HGR HAL HBX ⊢
  have HNF := Lib.hid hnF
  have HNL := Lib.hid hnL
  clear hnF hnL HFN
  go_enter Tryz.func3, Tryz.ntmps3
  go_wp2_with fail
  refine HGR.out.mono ?_
  rintro e w2 ⟨rfl, hb⟩
  have HB2 := Lib.hid (HAL.out.trans (hb.mono HAL.out.size))
  have HBX2 := Lib.hid (HBX.out.later hb)
  clear hb HAL HBX HGR
  cases hg : It.greatB s fs ws with
  | true =>
    go_wp2_with fail
    refine (HAW.out _ HB2.out).mono ?_
    rintro e w3 ⟨rfl, hb3⟩
    have HB3 := Lib.hid (HB2.out.trans (hb3.mono HB2.out.size))
    clear hb3
    go_wp2
    go_ret
    exact ⟨rfl, HB3.out⟩
  | false =>
  obtain ⟨l1, l2, l3, l4, l5⟩ := It.great_no hg
  rw [HNF.out] at l2
  rw [HNL.out] at l3
  clear hg l4 l5
  obtain ⟨n, hnX⟩ : ∃ n, X.length = n := ⟨_, rfl⟩
  rw [hnX] at hsz hX
  by_cases h2000 : 2000 < n
  · have h2I : (2000 : Int) < (n : Int) := by omega
    go_wp2_with fail
    refine (HAW.out _ HB2.out).mono ?_
    rintro e w3 ⟨rfl, hb3⟩
    have HB3 := Lib.hid (HB2.out.trans (hb3.mono HB2.out.size))
    clear hb3
    go_wp2
    go_ret
    exact ⟨rfl, HB3.out⟩
  have h2I : ¬ (2000 : Int) < (n : Int) := by omega
  have hgt := dget_any X w2 (by omega) (HFL.out.2.2.2.later HB2.out)
  have hrg := fun W => rget_any X W (by omega)
  generalize hgo : Dp.getS X = o at hgt hrg
  have HGT := Lib.hid hgt
  have HRG := Lib.hid hrg
  clear hgt hrg hgo
  go_wp2_with fail
  refine HGT.out.mono ?_
  intro e w3 hio
  obtain ⟨xF, xC, xL, xD, rfl, hxF, hxL, hb⟩ := iout_at hio
  clear hio
  have hrg2 := fun W => (HRG.out W).mono (fun e W' h => rout_at h)
  generalize o.isSome = bb at hrg2 ⊢
  generalize orZ o = I at *
  obtain ⟨ki, si, fi, li, xi⟩ := I
  simp only at hxF hxL hrg2 ⊢
  obtain ⟨mF, hmF⟩ : ∃ mF, fi.length = mF := ⟨_, rfl⟩
  obtain ⟨mL, hmL⟩ : ∃ mL, li.length = mL := ⟨_, rfl⟩
  rw [hmF, hmL] at hrg2 ⊢
  have HRG2 := Lib.hid hrg2
  have hal := (Below.refl w3.heap.size w3).alloc (Nat.le_refl _) (.cells #[.int .i64 ki, .string ⟨si.toArray⟩, .slice xF mF xC, .slice xL mL xD, .int .i64 xi] 25)
  have hx4 : ItBox (w3.alloc (.cells #[.int .i64 ki, .string ⟨si.toArray⟩, .slice xF mF xC, .slice xL mL xD, .int .i64 xi] 25)) w3.heap.size ki si xF mF xC xL mL xD xi := ItBox.new w3 ki si xF mF xC xL mL xD xi
  have HX4 := Lib.hid hx4
  have HXF := Lib.hid (And.intro (hxF.later hal) (hxL.later hal))
  have hb3 := HB2.out.trans (hb.mono HB2.out.size)
  have HB4 := Lib.hid (hb3.trans (hal.mono hb3.size))
  have HBX4 := Lib.hid ((HBX2.out.later hb).later hal)
  have HMF := Lib.hid hmF
  have HML := Lib.hid hmL
  clear hal hx4 hxF hxL hb hb3 hrg2 HGT HBX2 HRG hmF hmL
  unfold itv
  go_wp2_with fail
  refine (HRG2.out _).mono ?_
  rintro e w5 ⟨yF, yC, yL, yD, rfl, hyF, hyL, hb⟩
  obtain ⟨W6, hW6⟩ : ∃ W6, w5.alloc (.cells #[.int .i64 ki, .string ⟨si.toArray⟩, .slice yF mF yC, .slice yL mL yD, .int .i64 xi, .bool bb] 31) = W6 := ⟨_, rfl⟩
  have hal : Below w5.heap.size w5 W6 := by rw [← hW6]; exact (Below.refl _ _).alloc (Nat.le_refl _) _
  have hy6 : Gb W6 w5.heap.size ki si yF mF yC yL mL yD xi bb := by rw [← hW6]; exact World.alloc_heap_new w5 _
  have hx6 := (HX4.out.later hb).later hal
  have ha6 := (HBX4.out.later hb).later hal
  have hb6 := (HB4.out.trans (hb.mono HB4.out.size)).trans (hal.mono (HB4.out.trans (hb.mono HB4.out.size)).size)
  have hFa := HFL.out.1.later hb6
  have hLa := HFL.out.2.1.later hb6
  have hFx := (HXF.out.1.later hb).later hal
  have hLx := (HXF.out.2.later hb).later hal
  have hFy := hyF.later hal
  have hLy := hyL.later hal
  have he6 := HFL.out.2.2.2.later hb6
  have hpa := fun W (h : Below W6.heap.size W6 W) => dput_any k x s aF cF fs aL cL ws W (hFa.later h) (hLa.later h) (by have := HNF.out; omega) (by have := HNL.out; omega) (he6.later h)
  have hpr := fun W (h : Below W6.heap.size W6 W) => rput_any k x s aF cF fs aL cL ws W (hFa.later h) (hLa.later h) HFL.out.2.2.1
  have hsm := fun W (h : Below W6.heap.size W6 W) => refSame_any ki ki xi xi si si xF yF xC yC fi fi xL yL xD yD li li W (hFx.later h) (hFy.later h) (hLx.later h) (hLy.later h)
  rw [show It.sameB ⟨ki, si, fi, li, xi⟩ ⟨ki, si, fi, li, xi⟩ = true from It.same_self _] at hsm
  have haw := fun W (h : Below W6.heap.size W6 W) => awake_any W (he6.later h)
  obtain ⟨P, hP⟩ : ∃ P : List UInt8, Dp.putS ⟨k, s, fs, ws, x⟩ = P := ⟨_, rfl⟩
  rw [hP] at hpa hpr
  unfold itv at hpa hpr hsm
  rw [HNF.out, HNL.out] at hpa hpr
  rw [HMF.out, HML.out] at hsm
  have HPA := Lib.hid hpa
  have HPR := Lib.hid hpr
  have HSM := Lib.hid hsm
  have HAW6 := Lib.hid haw
  have HB6 := Lib.hid hb6
  obtain ⟨c0, c1, c2, c3, c4⟩ := ha6.at
  obtain ⟨d0, d1, d2, d3, d4⟩ := hx6.at
  obtain ⟨⟨e0, e1, e2, e3, e4, e5⟩, -⟩ := hy6.at
  obtain ⟨B2, hB2⟩ : ∃ B2, w.heap.size = B2 := ⟨_, rfl⟩
  obtain ⟨B5, hB5⟩ : ∃ B5, w3.heap.size = B5 := ⟨_, rfl⟩
  obtain ⟨B7, hB7⟩ : ∃ B7, w5.heap.size = B7 := ⟨_, rfl⟩
  rw [hB2] at c0 c1 c2 c3 c4
  rw [hB5] at d0 d1 d2 d3 d4
  rw [hB7] at e0 e1 e2 e3 e4 e5
  have HS : W6.drew.cell? ⟨B2, 0, none⟩ = some (.int .i64 k) ∧ W6.drew.cell? ⟨B2, 1, none⟩ = some (.string ⟨s.toArray⟩) ∧ W6.drew.cell? ⟨B2, 2, none⟩ = some (.slice aF nF cF) ∧ W6.drew.cell? ⟨B2, 3, none⟩ = some (.slice aL nL cL) ∧ W6.drew.cell? ⟨B2, 4, none⟩ = some (.int .i64 x) ∧ W6.drew.cell? ⟨B5, 0, none⟩ = some (.int .i64 ki) ∧ W6.drew.cell? ⟨B5, 1, none⟩ = some (.string ⟨si.toArray⟩) ∧ W6.drew.cell? ⟨B5, 2, none⟩ = some (.slice xF mF xC) ∧ W6.drew.cell? ⟨B5, 3, none⟩ = some (.slice xL mL xD) ∧ W6.drew.cell? ⟨B5, 4, none⟩ = some (.int .i64 xi) ∧ W6.drew.cell? ⟨B7, 0, none⟩ = some (.int .i64 ki) ∧ W6.drew.cell? ⟨B7, 1, none⟩ = some (.string ⟨si.toArray⟩) ∧ W6.drew.cell? ⟨B7, 2, none⟩ = some (.slice yF mF yC) ∧ W6.drew.cell? ⟨B7, 3, none⟩ = some (.slice yL mL yD) ∧ W6.drew.cell? ⟨B7, 4, none⟩ = some (.int .i64 xi) ∧ W6.drew.cell? ⟨B7, 5, none⟩ = some (.bool bb) ∧ Below W6.heap.size W6 W6.drew :=
    ⟨(World.cell?_drew _ _).trans c0, (World.cell?_drew _ _).trans c1, (World.cell?_drew _ _).trans c2, (World.cell?_drew _ _).trans c3, (World.cell?_drew _ _).trans c4, (World.cell?_drew _ _).trans d0, (World.cell?_drew _ _).trans d1, (World.cell?_drew _ _).trans d2, (World.cell?_drew _ _).trans d3, (World.cell?_drew _ _).trans d4, (World.cell?_drew _ _).trans e0, (World.cell?_drew _ _).trans e1, (World.cell?_drew _ _).trans e2, (World.cell?_drew _ _).trans e3, (World.cell?_drew _ _).trans e4, (World.cell?_drew _ _).trans e5, (Below.refl _ W6).drew⟩
  have HW6 := Lib.hid hW6
  have HBB := Lib.hid (And.intro hB2 (And.intro hB5 hB7))
  clear hW6 hal hy6 hx6 ha6 hb6 hFa hLa hFx hLx hFy hLy he6 hpa hpr hsm haw hP c0 c1 c2 c3 c4 d0 d1 d2 d3 d4 e0 e1 e2 e3 e4 e5 hB2 hB5 hB7 hb hyF hyL HXF HX4 HBX4 HRG2 HMF HML HNF HNL HFL HAW HB4
  go_upto_region 5 with (fail)
  rw [show w5.alloc (.cells #[.int .i64 ki, .string ⟨si.toArray⟩, .slice yF mF yC, .slice yL mL yD, .int .i64 xi, .bool bb] 31) = W6 from HW6.out, HBB.out.1, HBB.out.2.1, HBB.out.2.2]
  clear HW6 HBB
  go_region_held3 (fun W' => W'.cell? ⟨B2, 0, none⟩ = some (.int .i64 k) ∧ W'.cell? ⟨B2, 1, none⟩ = some (.string ⟨s.toArray⟩) ∧ W'.cell? ⟨B2, 2, none⟩ = some (.slice aF nF cF) ∧ W'.cell? ⟨B2, 3, none⟩ = some (.slice aL nL cL) ∧ W'.cell? ⟨B2, 4, none⟩ = some (.int .i64 x) ∧ W'.cell? ⟨B5, 0, none⟩ = some (.int .i64 ki) ∧ W'.cell? ⟨B5, 1, none⟩ = some (.string ⟨si.toArray⟩) ∧ W'.cell? ⟨B5, 2, none⟩ = some (.slice xF mF xC) ∧ W'.cell? ⟨B5, 3, none⟩ = some (.slice xL mL xD) ∧ W'.cell? ⟨B5, 4, none⟩ = some (.int .i64 xi) ∧ W'.cell? ⟨B7, 0, none⟩ = some (.int .i64 ki) ∧ W'.cell? ⟨B7, 1, none⟩ = some (.string ⟨si.toArray⟩) ∧ W'.cell? ⟨B7, 2, none⟩ = some (.slice yF mF yC) ∧ W'.cell? ⟨B7, 3, none⟩ = some (.slice yL mL yD) ∧ W'.cell? ⟨B7, 4, none⟩ = some (.int .i64 xi) ∧ W'.cell? ⟨B7, 5, none⟩ = some (.bool bb) ∧ Below W6.heap.size W6 W')
        (with_reducible exact HS)
        (first
          | (go_at_call 10; (with_reducible refine (HPA.out _ HS.2.2.2.2.2.2.2.2.2.2.2.2.2.2.2.2).mono ?_); rintro e w1 ⟨rfl, hb⟩; replace HS := sixS_next HS hb; clear hb)
          | (go_at_call 11; (with_reducible refine (HPR.out _ HS.2.2.2.2.2.2.2.2.2.2.2.2.2.2.2.2).mono ?_); rintro e w1 ⟨rfl, hb⟩; replace HS := sixS_next HS hb; clear hb)
          | (go_at_call 12; (with_reducible refine (HSM.out _ HS.2.2.2.2.2.2.2.2.2.2.2.2.2.2.2.2).mono ?_); rintro e w1 ⟨rfl, hb⟩; replace HS := sixS_next HS hb; clear hb)
          | (go_at_call 7; (with_reducible refine (HAW6.out _ HS.2.2.2.2.2.2.2.2.2.2.2.2.2.2.2.2).mono ?_); rintro e w1 ⟨rfl, hb⟩; replace HS := sixS_next HS hb; clear hb))
  go_wp2
  go_ret
  exact ⟨rfl, HB6.out.trans (HS.2.2.2.2.2.2.2.2.2.2.2.2.2.2.2.2.mono HB6.out.size)⟩
end Go.Proofs.YtbkhnnjjpelfcaaGreatDoor
