/- The walk of HashRuns: fields set and taken away by numbers. -/
import Derived.Test.YtfbfejeccfoioaaHsRunBase
namespace Go.Proofs.Ytfbfejeccfoioaa
open Go.RowKit Go.Shelf
set_option linter.unusedVariables false
set_option linter.unusedSimpArgs false

set_option maxRecDepth 100000 in
set_option maxHeartbeats 8000000 in
theorem hashRuns_walk (p : Option Addr) (cap : Nat) (ns : List UInt8) (w : World) (hP : Bytes w p ns) (hl : ns.length ≤ 9223372036854775807) :
    Calls Try.prog 4 #[.slice p ns.length cap] w fun e W => e = .returned (.bool true) ∧ Below w.heap.size w W := by
  have hawk : ∀ W, Below w.heap.size w W → Calls Try.prog 7 #[] W fun e W' => e = .returned (.bool true) ∧ Below w.heap.size w W' := fun W h => (awake_any W).mono fun e W' ⟨he, hb⟩ => ⟨he, h.trans (hb.mono h.size)⟩
  have HAW := Lib.hid hawk
  have HP := Lib.hid hP
  have hlI : (ns.length : Int) ≤ 9223372036854775807 := by omega
  clear hawk hP
  go_enter Try.func4, Try.ntmps4
  by_cases hn8 : ns.length ≤ 80
  rotate_left
  · have d1 : (80 : Int) < (ns.length : Int) := by omega
    clear hn8
    go_wp2_with fail
    refine (HAW.out w (Below.refl _ _)).mono ?_
    rintro e w2 ⟨rfl, hb⟩
    have HB2 := Lib.hid hb
    clear hb
    go_wp2_with fail
    go_ret
    exact ⟨rfl, HB2.out⟩
  have d1 : ¬ (80 : Int) < (ns.length : Int) := by omega
  have hnI : (ns.length : Int) ≤ 80 := by omega
  obtain ⟨cs0, hmk, hrow⟩ := make16 w
  obtain ⟨w1, hw1⟩ : ∃ w1, w.alloc (.cells cs0 9) = w1 := ⟨_, rfl⟩
  rw [hw1] at hmk hrow
  have hB1 : Below w.heap.size w w1 := by rw [← hw1]; exact (Below.refl _ w).alloc (Nat.le_refl _) _
  have HR1 := Lib.hid hrow
  have HB1 := Lib.hid hB1
  clear hw1 hrow hB1
  go_upto_region 5 with (fail)
  go_wp2_with fail
  go_loopw [2, 3, 5, 6, 7, 8] (fun r l n i _ _ wr => ∃ q : Nat, q ≤ ns.length ∧ r = .bool false ∧ i = .int .i64 q ∧ n = .int .i64 ((Hs.runN ns q).1.length : Nat) ∧ Hid (RowO (w.heap.size + 1) l (Hs.runN ns q).1 wr) ∧ Hid (HRow wr w.heap.size (Hs.runN ns q).2) ∧ Hid (Below w.heap.size w wr)) (fun _ _ _ i _ _ _ => ns.length - (intOf i).toNat)
  case atStart => exact ⟨0, Nat.zero_le _, rfl, rfl, rfl, Lib.hid (World.ownsRow_nil _ _ _ _), HR1, HB1⟩
  case round =>
    obtain ⟨q, hq, rfl, rfl, rfl, HL, HH, HB⟩ := hrel
    have hI := Hs.rinv ns q (by omega)
    have hI1 := Hs.rinv ns (q + 1) (by omega)
    have hS : Hs.runN ns (q + 1) = Hs.stepR (Hs.runN ns q) q (ns.getD q 0) := rfl
    by_cases hlt : q < ns.length
    · obtain ⟨bP, oP, rfl, hc⟩ : ∃ b off, p = some ⟨b, off, none⟩ ∧ ∀ k, k < ns.length → w.cell? ⟨b, off + k, none⟩ = some (.int .u8 ((ns.getD k 0).toNat : Int)) := by
        rcases HP.out with h | h
        · rw [h] at hlt; simp at hlt
        · exact h
      have hbP := World.block_lt_of_cell? w _ (hc q hlt)
      have y0 := (HB.out.cell (p := ⟨bP, oP + q, none⟩) hbP).trans (hc q hlt)
      have hy8 := UInt8.toNat_lt (ns.getD q 0)
      unfold Hs.stepR at hS
      generalize hbq : (ns.getD q 0).toNat = b8 at *
      obtain ⟨kk, hkk⟩ : ∃ kk, b8 % 16 = kk := ⟨_, rfl⟩
      have hk16 : kk < 16 := by omega
      rw [hkk] at hS
      have hkI : (b8 : Int) % 16 = (kk : Int) := by omega
      have hdl := hI.del_len hk16
      have hsl := hI.set_len hk16 (Dig.digs (q + 1))
      have hpos := hI.pos hk16
      have hL8 : (Hs.runN ns q).1.length ≤ 80 := by have := hI.len; omega
      have hL9 : (Hs.runN ns (q + 1)).1.length ≤ 81 := by have := hI1.len; omega
      have hok := hI.okF
      have hok1 := hI1.okF
      have hris := hI1.ris (by omega)
      have hdg : (Dig.digs (q + 1)).length ≤ 19 := Dig.digs_len20 (by omega)
      have HDG := Lib.hid (fun W => digits_pos (q + 1) W (by omega))
      rw [show (((q + 1 : Nat) : Int)) = (q : Int) + 1 from rfl] at HDG
      generalize hst0 : Hs.runN ns q = st0 at *
      generalize hst1 : Hs.runN ns (q + 1) = st1 at *
      obtain ⟨L, H⟩ := st0
      have HHD := Lib.hid (show ∀ W, HRow W w.heap.size H → W.cell? ⟨w.heap.size, kk, none⟩ = some (.string ⟨(H.getD kk []).toArray⟩) ∧ W.frozen? ⟨w.heap.size, kk, none⟩ = false from fun W h => h.2.2 kk hk16)
      obtain ⟨hv, hhv⟩ : ∃ hv, H.getD kk [] = hv := ⟨_, rfl⟩
      simp only [hhv] at hdl hsl hpos HHD
      have HS := Lib.hid hS
      have HOK := Lib.hid hok
      have HOK1 := Lib.hid hok1
      have HRIS := Lib.hid hris
      have HDL := Lib.hid hdl
      have HSL := Lib.hid hsl
      have HPOS := Lib.hid hpos
      have HL8 := Lib.hid hL8
      have HL9 := Lib.hid hL9
      simp only at HL HH
      have hszg : w.heap.size < wr.heap.size := HH.out.1
      have HSZ := Lib.hid hszg
      have kb0 : (0 : Int) ≤ (b8 : Int) := by omega
      have kb1 : (b8 : Int) ≤ 255 := by omega
      have wI : IntKind.i64.wrap (b8 : Int) = (b8 : Int) := IntWalk.i64_in _ (by omega)
      have wK : IntKind.u8.wrap (97 + (kk : Int)) = 97 + (kk : Int) := by rw [IntKind.wrap_u8]; omega
      have k0 : (0 : Int) ≤ (q : Int) := by omega
      have k1 : (q : Int) < (ns.length : Int) := by omega
      have wQ : IntKind.i64.wrap ((q : Int) + 1) = (q : Int) + 1 := IntWalk.i64_in _ (by omega)
      have kc := conv1
      have HNM := Lib.hid (nm16_str kk)
      obtain ⟨a3, c3, hu3, -⟩ := HL.out.open_ hok
      have hst1' := hst1
      clear hI hI1 hS hok hok1 hris hdl hsl hpos hL8 hL9 hst0 hst1 hhv hc hbP hkk hy8 hbq hszg
      subst hu3
      by_cases hge : 160 ≤ b8
      · have g0 : (160 : Int) ≤ (b8 : Int) := by omega
        have HS2 : Hid (st1 = (Hs.del L (Hs.nm16 kk), H.set kk [])) := Lib.hid (by rw [HS.out, if_pos hge])
        clear HS hge HSL HDG hdg
        by_cases hv0 : hv = []
        · subst hv0
          have HN : Hid (st1.1.length = L.length) := Lib.hid (by rw [HS2.out]; exact HDL.out)
          clear HDL HPOS
          go_upto_region 11 with (fail)
          obtain ⟨wn, hwn⟩ : ∃ wn, wr.alloc (.cells #[.int .u8 (97 + (kk : Int))] 5) = wn := ⟨_, rfl⟩
          have hbn : Below wr.heap.size wr wn := by rw [← hwn]; exact (Below.refl _ wr).alloc (Nat.le_refl _) _
          rw [hwn]
          have y1 := (hbn.cell (p := ⟨bP, oP + q, none⟩) (World.block_lt_of_cell? wr _ y0)).trans y0
          have HLn := Lib.hid (HL.out.later hbn)
          have HHn := Lib.hid (HH.out.later hbn)
          have HBn := Lib.hid (HB.out.trans (hbn.mono HB.out.size))
          have HSn := Lib.hid (Nat.lt_of_lt_of_le HSZ.out hbn.size)
          have c0 := (HHD.out wn HHn.out).1
          have f0 := (HHD.out wn HHn.out).2
          clear hwn hbn y0
          go_upto_region 15 with (fail)
          obtain ⟨ws, hws⟩ : ∃ ws, wn.setCell ⟨w.heap.size, kk, none⟩ (.string ⟨#[]⟩) = ws := ⟨_, rfl⟩
          rw [hws]
          have hkq : Keeps (fun j => j ≠ w.heap.size) wn ws := by rw [← hws]; exact (Keeps.refl _ _).setCell (.inr (by simp)) _
          have hLs : RowO (w.heap.size + 1) (.slice a3 L.length c3) L ws := owns_kept HLn.out hkq (fun g hg => by have := (HLn.out.lt g hg).1; omega)
          have hHs : HRow ws w.heap.size (H.set kk []) := by rw [← hws]; exact HHn.out.set hk16 _
          have hBs : Below w.heap.size w ws := by rw [← hws]; exact HBn.out.setCell (p := ⟨w.heap.size, kk, none⟩) (Nat.le_refl _) _
          have HLs := Lib.hid hLs
          have HHs := Lib.hid hHs
          have HBs := Lib.hid hBs
          clear hws hkq hLs hHs hBs
          go_wp2_with fail
          refine (del_o (n := [97 + UInt8.ofNat kk]) HLs.out (by have := HHs.out.1; omega) (by have : L.length ≤ 80 := HL8.out; omega) HOK.out).mono ?_
          rw [HNM.out]
          rintro e wx ⟨ux, rfl, hrx, hbx⟩
          rw [show Hs.del L (Hs.nm16 kk) = st1.1 from by rw [HS2.out]] at hrx
          obtain ⟨ax, cx, rfl, -⟩ := hrx.open_ HOK1.out
          have HLx := Lib.hid hrx
          have HHx : Hid (HRow wx w.heap.size st1.2) := Lib.hid (by rw [HS2.out]; exact HHs.out.later hbx)
          have HBx := Lib.hid (HBs.out.trans (hbx.mono HBs.out.size))
          generalize hM : st1.1.length = M at *
          have hne : (((M : Int)) != (L.length : Int)) = false := by rw [HN.out]; simp
          have hM81 : M ≤ 81 := HL9.out
          clear hrx hbx
          go_wp2_with fail
          have hro := ris_o HLx.out (by rw [hM]; omega) HOK1.out
          rw [HRIS.out] at hro
          refine hro.mono ?_
          rintro e wy ⟨rfl, hb⟩
          have HLy := Lib.hid (HLx.out.later hb)
          have HHy := Lib.hid (HHx.out.later hb)
          have HBy := Lib.hid (HBx.out.trans (hb.mono HBx.out.size))
          clear hb hro
          go_wp2_with fail
          have hno := names_o HLy.out (by rw [hM]; omega) HOK1.out
          refine hno.mono ?_
          rintro e wz ⟨⟨az, cz, rfl⟩, hb⟩
          have HLz := Lib.hid (HLy.out.later hb)
          have HHz := Lib.hid (HHy.out.later hb)
          have HBz := Lib.hid (HBy.out.trans (hb.mono HBy.out.size))
          clear hb hno
          go_wp2_with fail
          go_roundw
          case rel => exact ⟨q + 1, by omega, rfl, by go_num, by rw [hst1', hM]; rw [HN.out], by rw [hst1']; exact HLz, by rw [hst1']; exact HHz, HBz⟩
          case measure => simp [intOf]; omega
        · have he0 : List.isEmpty hv = false := by cases hv with
            | nil => exact (hv0 rfl).elim
            | cons _ _ => rfl
          have HN : Hid ((st1.1.length : Int) = (L.length : Int) - 1) := Lib.hid (by rw [HS2.out]; have h1 := HDL.out; have h2 := HPOS.out hv0; rw [if_neg hv0] at h1; rw [h1]; omega)
          have hLn : (L.length : Int) ≤ 80 := by have : L.length ≤ 80 := HL8.out; omega
          have wN : IntKind.i64.wrap ((L.length : Int) - 1) = (L.length : Int) - 1 := IntWalk.i64_in _ (by omega)
          clear HDL HPOS
          go_upto_region 11 with (fail)
          obtain ⟨wn, hwn⟩ : ∃ wn, wr.alloc (.cells #[.int .u8 (97 + (kk : Int))] 5) = wn := ⟨_, rfl⟩
          have hbn : Below wr.heap.size wr wn := by rw [← hwn]; exact (Below.refl _ wr).alloc (Nat.le_refl _) _
          rw [hwn]
          have y1 := (hbn.cell (p := ⟨bP, oP + q, none⟩) (World.block_lt_of_cell? wr _ y0)).trans y0
          have HLn := Lib.hid (HL.out.later hbn)
          have HHn := Lib.hid (HH.out.later hbn)
          have HBn := Lib.hid (HB.out.trans (hbn.mono HB.out.size))
          have HSn := Lib.hid (Nat.lt_of_lt_of_le HSZ.out hbn.size)
          have c0 := (HHD.out wn HHn.out).1
          have f0 := (HHD.out wn HHn.out).2
          clear hwn hbn y0
          go_upto_region 15 with (fail)
          obtain ⟨ws, hws⟩ : ∃ ws, wn.setCell ⟨w.heap.size, kk, none⟩ (.string ⟨#[]⟩) = ws := ⟨_, rfl⟩
          rw [hws]
          have hkq : Keeps (fun j => j ≠ w.heap.size) wn ws := by rw [← hws]; exact (Keeps.refl _ _).setCell (.inr (by simp)) _
          have hLs : RowO (w.heap.size + 1) (.slice a3 L.length c3) L ws := owns_kept HLn.out hkq (fun g hg => by have := (HLn.out.lt g hg).1; omega)
          have hHs : HRow ws w.heap.size (H.set kk []) := by rw [← hws]; exact HHn.out.set hk16 _
          have hBs : Below w.heap.size w ws := by rw [← hws]; exact HBn.out.setCell (p := ⟨w.heap.size, kk, none⟩) (Nat.le_refl _) _
          have HLs := Lib.hid hLs
          have HHs := Lib.hid hHs
          have HBs := Lib.hid hBs
          clear hws hkq hLs hHs hBs
          go_wp2_with fail
          refine (del_o (n := [97 + UInt8.ofNat kk]) HLs.out (by have := HHs.out.1; omega) (by have : L.length ≤ 80 := HL8.out; omega) HOK.out).mono ?_
          rw [HNM.out]
          rintro e wx ⟨ux, rfl, hrx, hbx⟩
          rw [show Hs.del L (Hs.nm16 kk) = st1.1 from by rw [HS2.out]] at hrx
          obtain ⟨ax, cx, rfl, -⟩ := hrx.open_ HOK1.out
          have HLx := Lib.hid hrx
          have HHx : Hid (HRow wx w.heap.size st1.2) := Lib.hid (by rw [HS2.out]; exact HHs.out.later hbx)
          have HBx := Lib.hid (HBs.out.trans (hbx.mono HBs.out.size))
          generalize hM : st1.1.length = M at *
          have hne : (((M : Int)) != (L.length : Int) - 1) = false := by rw [HN.out]; simp
          have hM81 : M ≤ 81 := HL9.out
          clear hrx hbx
          go_wp2_with fail
          have hro := ris_o HLx.out (by rw [hM]; omega) HOK1.out
          rw [HRIS.out] at hro
          refine hro.mono ?_
          rintro e wy ⟨rfl, hb⟩
          have HLy := Lib.hid (HLx.out.later hb)
          have HHy := Lib.hid (HHx.out.later hb)
          have HBy := Lib.hid (HBx.out.trans (hb.mono HBx.out.size))
          clear hb hro
          go_wp2_with fail
          have hno := names_o HLy.out (by rw [hM]; omega) HOK1.out
          refine hno.mono ?_
          rintro e wz ⟨⟨az, cz, rfl⟩, hb⟩
          have HLz := Lib.hid (HLy.out.later hb)
          have HHz := Lib.hid (HHy.out.later hb)
          have HBz := Lib.hid (HBy.out.trans (hb.mono HBy.out.size))
          clear hb hno
          go_wp2_with fail
          go_roundw
          case rel => exact ⟨q + 1, by omega, rfl, by go_num, by rw [hst1', hM]; rw [HN.out], by rw [hst1']; exact HLz, by rw [hst1']; exact HHz, HBz⟩
          case measure => simp [intOf]; omega
      · have g0 : ¬ (160 : Int) ≤ (b8 : Int) := by omega
        have HS2 : Hid (st1 = (Hs.set L (Hs.nm16 kk) (Dig.digs (q + 1)), H.set kk (Dig.digs (q + 1)))) := Lib.hid (by rw [HS.out, if_neg hge])
        clear HS hge HDL
        generalize Dig.digs (q + 1) = dg at *
        by_cases hv0 : hv = []
        · subst hv0
          have HN : Hid ((st1.1.length : Int) = (L.length : Int) + 1) := Lib.hid (by rw [HS2.out]; have h1 := HSL.out; rw [if_pos rfl] at h1; rw [h1]; omega)
          have hLn : (L.length : Int) ≤ 80 := by have : L.length ≤ 80 := HL8.out; omega
          have wN : IntKind.i64.wrap ((L.length : Int) + 1) = (L.length : Int) + 1 := IntWalk.i64_in _ (by omega)
          clear HSL HPOS
          go_upto_region 11 with (fail)
          obtain ⟨wn, hwn⟩ : ∃ wn, wr.alloc (.cells #[.int .u8 (97 + (kk : Int))] 5) = wn := ⟨_, rfl⟩
          have hbn : Below wr.heap.size wr wn := by rw [← hwn]; exact (Below.refl _ wr).alloc (Nat.le_refl _) _
          rw [hwn]
          have y1 := (hbn.cell (p := ⟨bP, oP + q, none⟩) (World.block_lt_of_cell? wr _ y0)).trans y0
          have HLn := Lib.hid (HL.out.later hbn)
          have HHn := Lib.hid (HH.out.later hbn)
          have HBn := Lib.hid (HB.out.trans (hbn.mono HB.out.size))
          have HSn := Lib.hid (Nat.lt_of_lt_of_le HSZ.out hbn.size)
          have c0 := (HHD.out wn HHn.out).1
          have f0 := (HHD.out wn HHn.out).2
          clear hwn hbn y0
          go_wp2_with fail
          refine (HDG.out wn).mono ?_
          rintro e wd ⟨rfl, hbd⟩
          have HLd := Lib.hid (HLn.out.later hbd)
          have HHd := Lib.hid (HHn.out.later hbd)
          have HBd := Lib.hid (HBn.out.trans (hbd.mono HBn.out.size))
          have c1 := (HHD.out wd HHd.out).1
          have f1 := (HHD.out wd HHd.out).2
          clear hbd c0 f0 y1
          go_upto_region 19 with (fail)
          obtain ⟨ws, hws⟩ : ∃ ws, wd.setCell ⟨w.heap.size, kk, none⟩ (.string ⟨dg.toArray⟩) = ws := ⟨_, rfl⟩
          rw [hws]
          have hkq : Keeps (fun j => j ≠ w.heap.size) wd ws := by rw [← hws]; exact (Keeps.refl _ _).setCell (.inr (by simp)) _
          have hLs : RowO (w.heap.size + 1) (.slice a3 L.length c3) L ws := owns_kept HLd.out hkq (fun g hg => by have := (HLd.out.lt g hg).1; omega)
          have hHs : HRow ws w.heap.size (H.set kk dg) := by rw [← hws]; exact HHd.out.set hk16 _
          have hBs : Below w.heap.size w ws := by rw [← hws]; exact HBd.out.setCell (p := ⟨w.heap.size, kk, none⟩) (Nat.le_refl _) _
          have HLs := Lib.hid hLs
          have HHs := Lib.hid hHs
          have HBs := Lib.hid hBs
          clear hws hkq hLs hHs hBs
          have c2 := ((HHs.out.2.2 kk hk16).1)
          rw [Hs.getD_set16 (by rw [HHd.out.2.1]; exact hk16), if_pos rfl] at c2
          clear c1 f1
          go_wp2_with fail
          refine (set_o (n := [97 + UInt8.ofNat kk]) (v := dg) HLs.out (by have := HHs.out.1; omega) (by have : L.length ≤ 80 := HL8.out; omega) HOK.out ⟨by simp, by simp only; omega⟩).mono ?_
          rw [HNM.out]
          rintro e wx ⟨ux, rfl, hrx, hbx⟩
          rw [show Hs.set L (Hs.nm16 kk) dg = st1.1 from by rw [HS2.out]] at hrx
          obtain ⟨ax, cx, rfl, -⟩ := hrx.open_ HOK1.out
          have HLx := Lib.hid hrx
          have HHx : Hid (HRow wx w.heap.size st1.2) := Lib.hid (by rw [HS2.out]; exact HHs.out.later hbx)
          have HBx := Lib.hid (HBs.out.trans (hbx.mono HBs.out.size))
          generalize hM : st1.1.length = M at *
          have hne : (((M : Int)) != (L.length : Int) + 1) = false := by rw [HN.out]; simp
          have hM81 : M ≤ 81 := HL9.out
          clear hrx hbx
          go_wp2_with fail
          have hro := ris_o HLx.out (by rw [hM]; omega) HOK1.out
          rw [HRIS.out] at hro
          refine hro.mono ?_
          rintro e wy ⟨rfl, hb⟩
          have HLy := Lib.hid (HLx.out.later hb)
          have HHy := Lib.hid (HHx.out.later hb)
          have HBy := Lib.hid (HBx.out.trans (hb.mono HBx.out.size))
          clear hb hro
          go_wp2_with fail
          have hno := names_o HLy.out (by rw [hM]; omega) HOK1.out
          refine hno.mono ?_
          rintro e wz ⟨⟨az, cz, rfl⟩, hb⟩
          have HLz := Lib.hid (HLy.out.later hb)
          have HHz := Lib.hid (HHy.out.later hb)
          have HBz := Lib.hid (HBy.out.trans (hb.mono HBy.out.size))
          clear hb hno
          go_wp2_with fail
          go_roundw
          case rel => exact ⟨q + 1, by omega, rfl, by go_num, by rw [hst1', hM]; rw [HN.out], by rw [hst1']; exact HLz, by rw [hst1']; exact HHz, HBz⟩
          case measure => simp [intOf]; omega
        · have he0 : List.isEmpty hv = false := by cases hv with
            | nil => exact (hv0 rfl).elim
            | cons _ _ => rfl
          have HN : Hid (st1.1.length = L.length) := Lib.hid (by rw [HS2.out]; have h1 := HSL.out; rw [if_neg hv0] at h1; exact h1)
          clear HSL HPOS
          go_upto_region 11 with (fail)
          obtain ⟨wn, hwn⟩ : ∃ wn, wr.alloc (.cells #[.int .u8 (97 + (kk : Int))] 5) = wn := ⟨_, rfl⟩
          have hbn : Below wr.heap.size wr wn := by rw [← hwn]; exact (Below.refl _ wr).alloc (Nat.le_refl _) _
          rw [hwn]
          have y1 := (hbn.cell (p := ⟨bP, oP + q, none⟩) (World.block_lt_of_cell? wr _ y0)).trans y0
          have HLn := Lib.hid (HL.out.later hbn)
          have HHn := Lib.hid (HH.out.later hbn)
          have HBn := Lib.hid (HB.out.trans (hbn.mono HB.out.size))
          have HSn := Lib.hid (Nat.lt_of_lt_of_le HSZ.out hbn.size)
          have c0 := (HHD.out wn HHn.out).1
          have f0 := (HHD.out wn HHn.out).2
          clear hwn hbn y0
          go_wp2_with fail
          refine (HDG.out wn).mono ?_
          rintro e wd ⟨rfl, hbd⟩
          have HLd := Lib.hid (HLn.out.later hbd)
          have HHd := Lib.hid (HHn.out.later hbd)
          have HBd := Lib.hid (HBn.out.trans (hbd.mono HBn.out.size))
          have c1 := (HHD.out wd HHd.out).1
          have f1 := (HHD.out wd HHd.out).2
          clear hbd c0 f0 y1
          go_upto_region 19 with (fail)
          obtain ⟨ws, hws⟩ : ∃ ws, wd.setCell ⟨w.heap.size, kk, none⟩ (.string ⟨dg.toArray⟩) = ws := ⟨_, rfl⟩
          rw [hws]
          have hkq : Keeps (fun j => j ≠ w.heap.size) wd ws := by rw [← hws]; exact (Keeps.refl _ _).setCell (.inr (by simp)) _
          have hLs : RowO (w.heap.size + 1) (.slice a3 L.length c3) L ws := owns_kept HLd.out hkq (fun g hg => by have := (HLd.out.lt g hg).1; omega)
          have hHs : HRow ws w.heap.size (H.set kk dg) := by rw [← hws]; exact HHd.out.set hk16 _
          have hBs : Below w.heap.size w ws := by rw [← hws]; exact HBd.out.setCell (p := ⟨w.heap.size, kk, none⟩) (Nat.le_refl _) _
          have HLs := Lib.hid hLs
          have HHs := Lib.hid hHs
          have HBs := Lib.hid hBs
          clear hws hkq hLs hHs hBs
          have c2 := ((HHs.out.2.2 kk hk16).1)
          rw [Hs.getD_set16 (by rw [HHd.out.2.1]; exact hk16), if_pos rfl] at c2
          clear c1 f1
          go_wp2_with fail
          refine (set_o (n := [97 + UInt8.ofNat kk]) (v := dg) HLs.out (by have := HHs.out.1; omega) (by have : L.length ≤ 80 := HL8.out; omega) HOK.out ⟨by simp, by simp only; omega⟩).mono ?_
          rw [HNM.out]
          rintro e wx ⟨ux, rfl, hrx, hbx⟩
          rw [show Hs.set L (Hs.nm16 kk) dg = st1.1 from by rw [HS2.out]] at hrx
          obtain ⟨ax, cx, rfl, -⟩ := hrx.open_ HOK1.out
          have HLx := Lib.hid hrx
          have HHx : Hid (HRow wx w.heap.size st1.2) := Lib.hid (by rw [HS2.out]; exact HHs.out.later hbx)
          have HBx := Lib.hid (HBs.out.trans (hbx.mono HBs.out.size))
          generalize hM : st1.1.length = M at *
          have hne : (((M : Int)) != (L.length : Int)) = false := by rw [HN.out]; simp
          have hM81 : M ≤ 81 := HL9.out
          clear hrx hbx
          go_wp2_with fail
          have hro := ris_o HLx.out (by rw [hM]; omega) HOK1.out
          rw [HRIS.out] at hro
          refine hro.mono ?_
          rintro e wy ⟨rfl, hb⟩
          have HLy := Lib.hid (HLx.out.later hb)
          have HHy := Lib.hid (HHx.out.later hb)
          have HBy := Lib.hid (HBx.out.trans (hb.mono HBx.out.size))
          clear hb hro
          go_wp2_with fail
          have hno := names_o HLy.out (by rw [hM]; omega) HOK1.out
          refine hno.mono ?_
          rintro e wz ⟨⟨az, cz, rfl⟩, hb⟩
          have HLz := Lib.hid (HLy.out.later hb)
          have HHz := Lib.hid (HHy.out.later hb)
          have HBz := Lib.hid (HBy.out.trans (hb.mono HBy.out.size))
          clear hb hno
          go_wp2_with fail
          go_roundw
          case rel => exact ⟨q + 1, by omega, rfl, by go_num, by rw [hst1', hM]; rw [HN.out], by rw [hst1']; exact HLz, by rw [hst1']; exact HHz, HBz⟩
          case measure => simp [intOf]; omega
    · obtain rfl : q = ns.length := by omega
      clear hS hI1
      generalize hst0 : Hs.runN ns ns.length = st0 at *
      obtain ⟨L, H⟩ := st0
      have hok := hI.okF
      have HGP := Lib.hid (fun k (hk : k < 16) => hI.getP hk)
      have hL8 : L.length ≤ 80 := by have := hI.len; simp only at this; omega
      have HOK := Lib.hid hok
      have HL8 := Lib.hid hL8
      simp only at HL HH HOK HGP
      have hszg : w.heap.size < wr.heap.size := HH.out.1
      have HSZ := Lib.hid hszg
      clear hI hst0 hok hL8 hszg
      obtain ⟨wo, rfl⟩ : ∃ wo : World, wo = wr := ⟨_, rfl⟩
      go_wp2_with fail
      go_loopw [2, 9, 10, 11] (fun r k _ _ wq => ∃ j : Nat, j ≤ 16 ∧ r = .bool false ∧ k = .int .i64 j ∧ Hid (Below wo.heap.size wo wq)) (fun _ k _ _ _ => 16 - (intOf k).toNat)
      case atStart => exact ⟨0, Nat.zero_le _, rfl, rfl, Lib.hid (Below.refl _ _)⟩
      case round =>
        obtain ⟨j, hj, rfl, rfl, H9⟩ := hrel
        by_cases hj16 : j < 16
        · have j1 : (j : Int) < 16 := by omega
          have wJ : IntKind.u8.wrap (97 + (j : Int)) = 97 + (j : Int) := by rw [IntKind.wrap_u8]; omega
          have kc := conv1
          have HNM := Lib.hid (nm16_str j)
          have hgp := HGP.out j hj16
          have HHD := Lib.hid (show ∀ W, HRow W w.heap.size H → W.cell? ⟨w.heap.size, j, none⟩ = some (.string ⟨(H.getD j []).toArray⟩) from fun W h => (h.2.2 j hj16).1)
          generalize H.getD j [] = hv at *
          have HGP2 := Lib.hid hgp
          clear hgp
          go_wp2_with fail
          have hgo := get_o (n := [97 + UInt8.ofNat j]) ((HL.out.later H9.out).later ((Below.refl _ _).alloc (Nat.le_refl _) (.cells #[.int .u8 (97 + (j : Int))] 5))) (by have : L.length ≤ 80 := HL8.out; omega) HOK.out
          rw [HNM.out, HGP2.out] at hgo
          rw [← HNM.out] at hgo
          refine hgo.mono ?_
          rintro e wg ⟨rfl, hb⟩
          have H10 := Lib.hid (H9.out.trans ((((Below.refl _ wr).alloc (Nat.le_refl _) (.cells #[.int .u8 (97 + (j : Int))] 5)).trans (hb.mono (by simp))).mono H9.out.size))
          have c0 := HHD.out wg (HH.out.later H10.out)
          clear hb hgo
          by_cases hv0 : hv = []
          · subst hv0
            simp only [decide_true, Bool.not_true]
            go_wp2_with fail
            go_roundw
            case rel => exact ⟨j + 1, by omega, rfl, by go_num, H10⟩
            case measure => simp [intOf]; omega
          · have hd0 : decide (hv = []) = false := decide_eq_false hv0
            have he0 : List.isEmpty hv = false := by cases hv with
              | nil => exact (hv0 rfl).elim
              | cons _ _ => rfl
            simp only [hd0, Bool.not_false]
            go_wp2_with fail
            go_roundw
            case rel => exact ⟨j + 1, by omega, rfl, by go_num, H10⟩
            case measure => simp [intOf]; omega
        · obtain rfl : j = 16 := by omega
          go_wp2_with fail
          refine (HAW.out wr (HB.out.trans (H9.out.mono HB.out.size))).mono ?_
          rintro e w11 ⟨rfl, hb⟩
          have R11 := Lib.hid hb
          clear hb
          go_wp2_with fail
          go_ret
          exact ⟨rfl, R11.out⟩
end Go.Proofs.Ytfbfejeccfoioaa
