/- The walk of the law SpaceMade. -/
import Derived.Test.YtkmdpmkjcfccnaaSpcLaw
namespace Go.Proofs.Ytkmdpmkjcfccnaa
open Go.RowKit Go.Shelf
attribute [local go_sem] Oper.semAt_some
set_option linter.unusedVariables false
set_option linter.unusedSimpArgs false

set_option maxRecDepth 100000 in
set_option maxHeartbeats 8000000 in
theorem spaceMade_walk (p : Option Addr) (cap : Nat) (ns : List UInt8) (p2 : Option Addr) (cap2 : Nat) (ms : List UInt8) (wh now : Int) (w : World) (hB : Bytes w p ns) (hl : ns.length ≤ cap) (hm : ns.length ≤ maxLen) (hB2 : Bytes w p2 ms) (hl2 : ms.length ≤ cap2) (hm2 : ms.length ≤ maxLen) (e0 : 0 ≤ wh) (e1 : wh ≤ 255) (n0 : 0 ≤ now) (n1 : now ≤ 255) :
    Calls Try.prog 4 #[.slice p ns.length cap, .slice p2 ms.length cap2, .int .u8 wh, .int .u8 now] w fun e w' => e = .returned (.bool true) ∧ Below w.heap.size w w' := by
  have HAW := Lib.hid (fun W => awake_any W)
  by_cases hbig : 160 < ns.length
  · have k1 : (160 : Int) < (ns.length : Int) := by omega
    clear hB hB2
    go_enter Try.func4, Try.ntmps4
    go_wp2_with fail
    refine (HAW.out _).mono ?_
    rintro e wz ⟨rfl, hb⟩
    have HBZ := Lib.hid hb
    clear hb
    go_wp2_with fail
    go_ret
    exact ⟨rfl, HBZ.out⟩
  have k1 : ¬ (160 : Int) < (ns.length : Int) := by omega
  by_cases hbig2 : 80 < ms.length
  · have k2 : (80 : Int) < (ms.length : Int) := by omega
    clear hB hB2
    go_enter Try.func4, Try.ntmps4
    go_wp2_with fail
    refine (HAW.out _).mono ?_
    rintro e wz ⟨rfl, hb⟩
    have HBZ := Lib.hid hb
    clear hb
    go_wp2_with fail
    go_ret
    exact ⟨rfl, HBZ.out⟩
  have k2 : ¬ (80 : Int) < (ms.length : Int) := by omega
  have HMK := Lib.hid (spcMake_any p cap ns w hB hl (by omega))
  have HEF := Lib.hid (fun W (h : Below w.heap.size w W) => efs_any p2 cap2 ms W (hB2.later h) hl2 (by omega))
  have HKY := Lib.hid (fun W => key_any wh W e0 e1)
  have HB := Lib.hid (Below.refl w.heap.size w)
  have hkl := keyT_len wh
  clear hB hB2
  have hwn : IntKind.i64.wrap now = now := IntWalk.i64_in _ (by omega)
  go_enter Try.func4, Try.ntmps4
  go_wp2_with fail
  refine (HMK.out).mono ?_
  rintro e w1 ⟨a, c, ps, rfl, hp, hn, hq, hb⟩
  have HK1 := Lib.hid hb
  clear hb
  replace HB := Lib.hid (HB.out.trans (HK1.out.mono HB.out.size))
  have HP := Lib.hid hp
  have HN := Lib.hid hn
  have HQ := Lib.hid hq
  have HASP : Hid (Db.AscP (ps.map Lp.p)) := Lib.hid (by rw [hq]; exact numDb_asc ns)
  have HGD : Hid (∀ q ∈ ps, Gd q.p) := Lib.hid fun q h => numDb_gd ns q.p (by rw [← hq]; exact List.mem_map_of_mem h)
  have hlen : ps.length ≤ 40 := by have := numDb_len ns; rw [← hq, List.length_map] at this; exact this
  clear hp hn hq
  go_wp2_with fail
  refine (HEF.out _ HB.out).mono ?_
  rintro e w2 ⟨a2, c2, es, rfl, he, hn, hq, hb⟩
  have HK2 := Lib.hid hb
  clear hb
  replace HP := Lib.hid (HP.out.later HK2.out)
  replace HB := Lib.hid (HB.out.trans (HK2.out.mono HB.out.size))
  have HE := Lib.hid he
  have HEQ := Lib.hid hq
  have hel : es.length ≤ 40 := by have := numE_len ms; rw [← hq, List.length_map] at this; exact this
  have HSE : Hid (∀ e ∈ es, e.e.Sm) := Lib.hid fun e h => numE_sm (ns := ms) e.e (by rw [← hq]; exact List.mem_map_of_mem h)
  clear he hn hq
  go_wp2_with fail
  refine (HKY.out _).mono ?_
  rintro e w3 ⟨rfl, hb⟩
  have HK3 := Lib.hid hb
  clear hb
  replace HP := Lib.hid (HP.out.later HK3.out)
  replace HE := Lib.hid (HE.out.later HK3.out)
  replace HB := Lib.hid (HB.out.trans (HK3.out.mono HB.out.size))
  have HSM : Hid (∀ q ∈ ps, q.p.Sm) := Lib.hid fun q h => (HGD.out q h).sm
  have HAS := Lib.hid (AscP.l HASP.out)
  obtain ⟨key, hkey⟩ : ∃ key, keyT wh = key := ⟨_, rfl⟩
  rw [hkey] at hkl ⊢
  clear hkey
  go_wp2_with fail
  refine (spget_any a c ps key now _ HP.out (by omega) HAS.out HSM.out).mono ?_
  rintro e w4 ⟨o', rfl, ho', hok, hb, -⟩
  have HK4 := Lib.hid hb
  clear hb
  replace HP := Lib.hid (HP.out.later HK4.out)
  replace HE := Lib.hid (HE.out.later HK4.out)
  replace HB := Lib.hid (HB.out.trans (HK4.out.mono HB.out.size))
  obtain ⟨hg1, hg2⟩ := got_eq ho'
  unfold gotT
  obtain ⟨q, hq⟩ : ∃ q, o'.getD Li.zero = q := ⟨_, rfl⟩
  obtain ⟨g, hg⟩ : ∃ g, o'.isSome = g := ⟨_, rfl⟩
  rw [hq] at hg1 hok
  rw [hg] at hg2
  rw [hq, hg]
  have HG1 := Lib.hid hg1
  have HG2 := Lib.hid hg2
  have HQO := Lib.hid (show q.Ok w4 from hok)
  clear ho' hok hg1 hg2 hq hg
  obtain ⟨w5, hw5⟩ : ∃ w5, w4.alloc (.cells #[.int .i64 q.k, .string ⟨q.s.toArray⟩, .slice q.aF q.fs.length q.cF, .slice q.aL q.ws.length q.cL, .int .i64 q.x] 31) = w5 := ⟨_, rfl⟩
  have HK5 : Hid (Below w4.heap.size w4 w5) := Lib.hid (by rw [← hw5]; exact (Below.refl _ w4).alloc (Nat.le_refl _) _)
  have HBX : Hid (ItBox w5 w4.heap.size q.k q.s q.aF q.fs.length q.cF q.aL q.ws.length q.cL q.x) := Lib.hid (by rw [← hw5]; exact ItBox.new w4 q.k q.s q.aF q.fs.length q.cF q.aL q.ws.length q.cL q.x)
  have HW5 := Lib.hid hw5
  clear hw5
  replace HP := Lib.hid (HP.out.later HK5.out)
  replace HE := Lib.hid (HE.out.later HK5.out)
  replace HQO := Lib.hid (HQO.out.later HK5.out)
  replace HB := Lib.hid (HB.out.trans (HK5.out.mono HB.out.size))
  go_upto_region 6 with (fail)
  rw [show w4.alloc (.cells #[.int .i64 q.k, .string ⟨q.s.toArray⟩, .slice q.aF q.fs.length q.cF, .slice q.aL q.ws.length q.cL, .int .i64 q.x] 31) = w5 from HW5.out]
  clear HW5
  go_wp2_with fail
  refine (dbget_any a c ps key now _ HP.out (by omega)).mono ?_
  rintro e w6 ⟨rfl, hb⟩
  have HK6 := Lib.hid hb
  clear hb
  replace HP := Lib.hid (HP.out.later HK6.out)
  replace HE := Lib.hid (HE.out.later HK6.out)
  replace HQO := Lib.hid (HQO.out.later HK6.out)
  replace HBX := Lib.hid (HBX.out.later HK6.out)
  replace HB := Lib.hid (HB.out.trans (HK6.out.mono HB.out.size))
  unfold gotv
  have hro := getL_ok (key := key) (now := now) HP.out.2
  obtain ⟨r, hr⟩ : ∃ r, (getL ps key now).getD Li.zero = r := ⟨_, rfl⟩
  obtain ⟨g2, hg2⟩ : ∃ g2, (getL ps key now).isSome = g2 := ⟨_, rfl⟩
  have hqr := HG1.out
  have hgg := HG2.out
  rw [hr] at hro hqr
  rw [hg2] at hgg
  rw [hr, hg2]
  subst hgg
  have HRO := Lib.hid hro
  have HQR := Lib.hid hqr
  clear hro hqr hr hg2 HG1 HG2
  obtain ⟨w7, hw7⟩ : ∃ w7, w6.alloc (.cells #[.int .i64 r.k, .string ⟨r.s.toArray⟩, .slice r.aF r.fs.length r.cF, .slice r.aL r.ws.length r.cL, .int .i64 r.x, .bool g] 36) = w7 := ⟨_, rfl⟩
  have HK7 : Hid (Below w6.heap.size w6 w7) := Lib.hid (by rw [← hw7]; exact (Below.refl _ w6).alloc (Nat.le_refl _) _)
  have HGX : Hid (Gb w7 w6.heap.size r.k r.s r.aF r.fs.length r.cF r.aL r.ws.length r.cL r.x g) := Lib.hid (by rw [← hw7]; exact World.alloc_heap_new w6 _)
  have HW7 := Lib.hid hw7
  clear hw7
  replace HP := Lib.hid (HP.out.later HK7.out)
  replace HE := Lib.hid (HE.out.later HK7.out)
  replace HQO := Lib.hid (HQO.out.later HK7.out)
  replace HBX := Lib.hid (HBX.out.later HK7.out)
  replace HRO := Lib.hid (HRO.out.later HK7.out)
  replace HB := Lib.hid (HB.out.trans (HK7.out.mono HB.out.size))
  go_upto_region 7 with (fail)
  rw [show w6.alloc (.cells #[.int .i64 r.k, .string ⟨r.s.toArray⟩, .slice r.aF r.fs.length r.cF, .slice r.aL r.ws.length r.cL, .int .i64 r.x, .bool g] 36) = w7 from HW7.out]
  clear HW7
  go_wp2_with fail
  refine (sps_any a c ps a2 c2 es _ HP.out HE.out (by omega) (by omega) HN.out HAS.out HSM.out HSE.out).mono ?_
  rintro e w8 ⟨a3, c3, rs, rfl, hp3, hn3, hq3, hb⟩
  have HK8 := Lib.hid hb
  clear hb
  replace HP := Lib.hid (HP.out.later HK8.out)
  replace HE := Lib.hid (HE.out.later HK8.out)
  replace HQO := Lib.hid (HQO.out.later HK8.out)
  replace HBX := Lib.hid (HBX.out.later HK8.out)
  replace HRO := Lib.hid (HRO.out.later HK8.out)
  replace HGX := Lib.hid (HGX.out.later HK8.out)
  replace HB := Lib.hid (HB.out.trans (HK8.out.mono HB.out.size))
  have HR := Lib.hid hp3
  have HRQ := Lib.hid hq3
  have hrl : rs.length ≤ 80 := by have h1 := app_len (es.map Le.e) (ps.map Lp.p); rw [← hq3] at h1; simp only [List.length_map] at h1; omega
  have HRA : Hid (Db.AscP (rs.map Lp.p)) := Lib.hid (by rw [hq3]; exact Db.app_asc HASP.out _)
  have HRG : Hid (∀ q ∈ rs, Gd q.p) := Lib.hid fun q h => app_gd HASP.out (fun p2 h2 => by obtain ⟨q2, h3, rfl⟩ := List.mem_map.1 h2; exact HGD.out q2 h3) ms q.p (by rw [← HEQ.out, ← hq3]; exact List.mem_map_of_mem h)
  have HRS : Hid (∀ q ∈ rs, q.p.Sm) := Lib.hid fun q h => (HRG.out q h).sm
  have HMY : Hid (Db.mayS (ps.map Lp.p) = true) := Lib.hid (mayS_of HASP.out fun p2 h2 => by obtain ⟨q2, h3, rfl⟩ := List.mem_map.1 h2; have := HGD.out q2 h3; exact ⟨by have := this.1; omega, this.2⟩)
  have HMR : Hid (Db.mayS (rs.map Lp.p) = true) := Lib.hid (mayS_of HRA.out fun p2 h2 => by obtain ⟨q2, h3, rfl⟩ := List.mem_map.1 h2; have := HRG.out q2 h3; exact ⟨by have := this.1; omega, this.2⟩)
  clear hp3 hn3 hq3
  have hmy := spmay_any a c ps _ HP.out (by omega) (gd_small HSM.out)
  rw [HMY.out] at hmy
  have HMC := Lib.hid hmy
  clear hmy
  go_wp2_with fail
  refine (HMC.out).mono ?_
  rintro e w9 ⟨rfl, hb⟩
  have HK9 := Lib.hid hb
  clear hb
  replace HP := Lib.hid (HP.out.later HK9.out)
  replace HE := Lib.hid (HE.out.later HK9.out)
  replace HQO := Lib.hid (HQO.out.later HK9.out)
  replace HBX := Lib.hid (HBX.out.later HK9.out)
  replace HRO := Lib.hid (HRO.out.later HK9.out)
  replace HGX := Lib.hid (HGX.out.later HK9.out)
  replace HR := Lib.hid (HR.out.later HK9.out)
  replace HB := Lib.hid (HB.out.trans (HK9.out.mono HB.out.size))
  obtain ⟨d0, d1, d2, d3, d4⟩ := HBX.out.at
  obtain ⟨⟨f0, f1, f2, f3, f4, f5⟩, -⟩ := HGX.out.at
  go_wp2_with fail
  refine (sameI_any q r _ HQO.out HRO.out).mono ?_
  rintro e w10 ⟨rfl, hb⟩
  have HK10 := Lib.hid hb
  clear hb
  replace HP := Lib.hid (HP.out.later HK10.out)
  replace HE := Lib.hid (HE.out.later HK10.out)
  replace HQO := Lib.hid (HQO.out.later HK10.out)
  replace HBX := Lib.hid (HBX.out.later HK10.out)
  replace HRO := Lib.hid (HRO.out.later HK10.out)
  replace HGX := Lib.hid (HGX.out.later HK10.out)
  replace HR := Lib.hid (HR.out.later HK10.out)
  replace HB := Lib.hid (HB.out.trans (HK10.out.mono HB.out.size))
  rw [show It.sameB q.i r.i = true by rw [HQR.out]; exact It.same_self _]
  clear d0 d1 d2 d3 d4 f0 f1 f2 f3 f4 f5
  obtain ⟨⟨f0, f1, f2, f3, f4, f5⟩, -⟩ := HGX.out.at
  go_wp2_with fail
  refine (refApply_any a c ps a2 c2 es _ HP.out HE.out (by omega) (by omega) HN.out).mono ?_
  rintro e w11 ⟨a4, c4, ts, rfl, hp4, hn4, hq4, hb⟩
  have HK11 := Lib.hid hb
  clear hb
  replace HP := Lib.hid (HP.out.later HK11.out)
  replace HE := Lib.hid (HE.out.later HK11.out)
  replace HQO := Lib.hid (HQO.out.later HK11.out)
  replace HBX := Lib.hid (HBX.out.later HK11.out)
  replace HRO := Lib.hid (HRO.out.later HK11.out)
  replace HGX := Lib.hid (HGX.out.later HK11.out)
  replace HR := Lib.hid (HR.out.later HK11.out)
  replace HB := Lib.hid (HB.out.trans (HK11.out.mono HB.out.size))
  have HT := Lib.hid hp4
  have htl : ts.length ≤ 80 := by have h1 := app_len (es.map Le.e) (ps.map Lp.p); rw [← hq4] at h1; simp only [List.length_map] at h1; omega
  have hss := sameSpace_any a3 c3 rs a4 c4 ts _ HR.out hp4 (by omega) (by omega)
  rw [hq4, HRQ.out, sameS_self] at hss
  have HSS := Lib.hid hss
  clear hp4 hn4 hq4 hss f0 f1 f2 f3 f4 f5
  go_wp2_with fail
  refine (HSS.out).mono ?_
  rintro e w12 ⟨rfl, hb⟩
  have HK12 := Lib.hid hb
  clear hb
  replace HP := Lib.hid (HP.out.later HK12.out)
  replace HE := Lib.hid (HE.out.later HK12.out)
  replace HQO := Lib.hid (HQO.out.later HK12.out)
  replace HBX := Lib.hid (HBX.out.later HK12.out)
  replace HRO := Lib.hid (HRO.out.later HK12.out)
  replace HGX := Lib.hid (HGX.out.later HK12.out)
  replace HR := Lib.hid (HR.out.later HK12.out)
  replace HB := Lib.hid (HB.out.trans (HK12.out.mono HB.out.size))
  have hmy := spmay_any a3 c3 rs _ HR.out (by omega) (gd_small HRS.out)
  rw [HMR.out] at hmy
  have HMC2 := Lib.hid hmy
  clear hmy
  go_wp2_with fail
  refine (HMC2.out).mono ?_
  rintro e w13 ⟨rfl, hb⟩
  have HK13 := Lib.hid hb
  clear hb
  replace HP := Lib.hid (HP.out.later HK13.out)
  replace HE := Lib.hid (HE.out.later HK13.out)
  replace HQO := Lib.hid (HQO.out.later HK13.out)
  replace HBX := Lib.hid (HBX.out.later HK13.out)
  replace HRO := Lib.hid (HRO.out.later HK13.out)
  replace HGX := Lib.hid (HGX.out.later HK13.out)
  replace HR := Lib.hid (HR.out.later HK13.out)
  replace HB := Lib.hid (HB.out.trans (HK13.out.mono HB.out.size))
  go_wp2_with fail
  refine (refSlot_any key _ (by omega)).mono ?_
  rintro e w14 ⟨rfl, hb⟩
  have HK14 := Lib.hid hb
  clear hb
  replace HP := Lib.hid (HP.out.later HK14.out)
  replace HE := Lib.hid (HE.out.later HK14.out)
  replace HQO := Lib.hid (HQO.out.later HK14.out)
  replace HBX := Lib.hid (HBX.out.later HK14.out)
  replace HRO := Lib.hid (HRO.out.later HK14.out)
  replace HGX := Lib.hid (HGX.out.later HK14.out)
  replace HR := Lib.hid (HR.out.later HK14.out)
  replace HB := Lib.hid (HB.out.trans (HK14.out.mono HB.out.size))
  obtain ⟨z, hz⟩ : ∃ z : Int, (slotOf key : Int) = z := ⟨_, rfl⟩
  rw [hz]
  go_wp2_with fail
  refine (spin_any a3 c3 rs z _ HR.out (by omega) (fun q h => (HRS.out q h).1)).mono ?_
  rintro e w15 ⟨u5, rfl, hr5⟩
  obtain ⟨a5, c5, rfl, hw5, hb⟩ := words_of_row hr5 (fun s h => by obtain ⟨q2, h2, rfl⟩ := List.mem_map.1 (inS_mem h).1; have := (HRG.out q2 h2).1; simp only [Lp.p] at this; omega)
  have HK15 := Lib.hid hb
  have HL := Lib.hid hw5
  clear hr5 hw5 hb
  replace HP := Lib.hid (HP.out.later HK15.out)
  replace HE := Lib.hid (HE.out.later HK15.out)
  replace HQO := Lib.hid (HQO.out.later HK15.out)
  replace HBX := Lib.hid (HBX.out.later HK15.out)
  replace HRO := Lib.hid (HRO.out.later HK15.out)
  replace HGX := Lib.hid (HGX.out.later HK15.out)
  replace HR := Lib.hid (HR.out.later HK15.out)
  replace HB := Lib.hid (HB.out.trans (HK15.out.mono HB.out.size))
  go_wp2_with fail
  refine (refSlot_any key _ (by omega)).mono ?_
  rintro e w16 ⟨rfl, hb⟩
  have HK16 := Lib.hid hb
  clear hb
  replace HP := Lib.hid (HP.out.later HK16.out)
  replace HE := Lib.hid (HE.out.later HK16.out)
  replace HQO := Lib.hid (HQO.out.later HK16.out)
  replace HBX := Lib.hid (HBX.out.later HK16.out)
  replace HRO := Lib.hid (HRO.out.later HK16.out)
  replace HGX := Lib.hid (HGX.out.later HK16.out)
  replace HR := Lib.hid (HR.out.later HK16.out)
  replace HL := Lib.hid (HL.out.later HK16.out)
  replace HB := Lib.hid (HB.out.trans (HK16.out.mono HB.out.size))
  rw [hz]
  go_wp2_with fail
  refine (in_any a3 c3 rs z _ HR.out (by omega)).mono ?_
  rintro e w17 ⟨u6, rfl, hr6⟩
  obtain ⟨a6, c6, rfl, hw6, hb⟩ := words_of_row hr6 (fun s h => by obtain ⟨q2, h2, rfl⟩ := List.mem_map.1 (inS_mem h).1; have := (HRG.out q2 h2).1; simp only [Lp.p] at this; omega)
  have HK17 := Lib.hid hb
  have HL2 := Lib.hid hw6
  clear hr6 hw6 hb
  replace HP := Lib.hid (HP.out.later HK17.out)
  replace HE := Lib.hid (HE.out.later HK17.out)
  replace HQO := Lib.hid (HQO.out.later HK17.out)
  replace HBX := Lib.hid (HBX.out.later HK17.out)
  replace HRO := Lib.hid (HRO.out.later HK17.out)
  replace HGX := Lib.hid (HGX.out.later HK17.out)
  replace HR := Lib.hid (HR.out.later HK17.out)
  replace HL := Lib.hid (HL.out.later HK17.out)
  replace HB := Lib.hid (HB.out.trans (HK17.out.mono HB.out.size))
  have htx := texts_any a5 a6 c5 c6 _ _ _ HL.out HL2.out
  rw [decide_eq_true rfl] at htx
  have HTX := Lib.hid htx
  clear htx
  go_wp2_with fail
  refine (HTX.out).mono ?_
  rintro e w18 ⟨rfl, hb⟩
  have HK18 := Lib.hid hb
  clear hb
  replace HP := Lib.hid (HP.out.later HK18.out)
  replace HE := Lib.hid (HE.out.later HK18.out)
  replace HQO := Lib.hid (HQO.out.later HK18.out)
  replace HBX := Lib.hid (HBX.out.later HK18.out)
  replace HRO := Lib.hid (HRO.out.later HK18.out)
  replace HGX := Lib.hid (HGX.out.later HK18.out)
  replace HR := Lib.hid (HR.out.later HK18.out)
  replace HL := Lib.hid (HL.out.later HK18.out)
  replace HB := Lib.hid (HB.out.trans (HK18.out.mono HB.out.size))
  go_wp2_with fail
  refine (HAW.out _).mono ?_
  rintro e w19 ⟨rfl, hb⟩
  have HK19 := Lib.hid hb
  clear hb
  replace HP := Lib.hid (HP.out.later HK19.out)
  replace HE := Lib.hid (HE.out.later HK19.out)
  replace HQO := Lib.hid (HQO.out.later HK19.out)
  replace HBX := Lib.hid (HBX.out.later HK19.out)
  replace HRO := Lib.hid (HRO.out.later HK19.out)
  replace HGX := Lib.hid (HGX.out.later HK19.out)
  replace HR := Lib.hid (HR.out.later HK19.out)
  replace HL := Lib.hid (HL.out.later HK19.out)
  replace HB := Lib.hid (HB.out.trans (HK19.out.mono HB.out.size))
  go_wp2_with fail
  go_ret
  exact ⟨rfl, HB.out⟩
end Go.Proofs.Ytkmdpmkjcfccnaa
