/- The walk of the law FeedMade. -/
import Derived.Test.YtihleddhjmejoaaMD43
import Derived.Test.YtihleddhjmejoaaMD45
import Derived.Test.YtihleddhjmejoaaMD48
import Derived.Test.YtihleddhjmejoaaMD49
import Derived.Test.YtihleddhjmejoaaMD12
namespace Go.Proofs.Ytihleddhjmejoaa
open Go.RowKit Go.Shelf
attribute [local go_sem] Oper.semAt_some
set_option linter.unusedVariables false
set_option linter.unusedSimpArgs false

theorem fe_sameS (l : List Db.P) : Db.sameS l l = true := by
  unfold Db.sameS
  rw [decide_eq_true rfl, Bool.true_and, List.all_eq_true]
  intro i _
  unfold Db.sameAt
  rw [decide_eq_true rfl, It.same_self]
  rfl
theorem mk_off (ns : List UInt8) (r : Int) : (mkFd ns r).off = ((numE ns).length : Int) := by unfold mkFd Fd.add; simp
theorem mk_back (ns : List UInt8) (r : Int) : (mkFd ns r).back = numE ns := by
  unfold mkFd Fd.add
  simp only [List.nil_append]
  exact Fd.last_few (by have := numE_len ns; omega)
theorem mk_sm {g : Fe} {ns : List UInt8} {r : Int} (h : g.f = mkFd ns r) : ∀ e ∈ g.es, e.e.Sm := fun e he => by
  have h1 : g.es.map Le.e = numE ns := by rw [← mk_back ns r, ← h]; rfl
  exact numE_sm (ns := ns) e.e (by rw [← h1]; exact List.mem_map_of_mem he)
theorem mk_len {g : Fe} {ns : List UInt8} {r : Int} (h : g.f = mkFd ns r) : g.es.length ≤ 40 := by
  have h1 : g.es.map Le.e = numE ns := by rw [← mk_back ns r, ← h]; rfl
  have := numE_len ns
  rw [← h1, List.length_map] at this
  exact this
theorem mk_offb {g : Fe} {ns : List UInt8} {r : Int} (h : g.f = mkFd ns r) : 0 ≤ g.off ∧ g.off ≤ 40 := by
  have h1 : g.off = (mkFd ns r).off := congrArg Fd.F.off h
  rw [mk_off] at h1
  have := numE_len ns
  omega
theorem asc_of {ps : List Lp} (h : Db.AscP (ps.map Lp.p)) : AscL ps := fun i j hij hj => by
  have hk := (List.pairwise_iff_getElem.1 h) i j (by rw [List.length_map]; omega) (by rw [List.length_map]; exact hj) hij
  rw [getD_eq (by omega), getD_eq hj]
  simp only [List.getElem_map] at hk
  exact hk
theorem num_asc {ps : List Lp} {ns : List UInt8} (h : ps.map Lp.p = numDb ns) : AscL ps := asc_of (by rw [h]; exact numDb_asc ns)
theorem num_sm {ps : List Lp} {ns : List UInt8} (h : ps.map Lp.p = numDb ns) : ∀ p ∈ ps, p.p.Sm := fun p hp => (numDb_gd ns p.p (by rw [← h]; exact List.mem_map_of_mem hp)).sm
theorem num_len {ps : List Lp} {ns : List UInt8} (h : ps.map Lp.p = numDb ns) : ps.length ≤ 40 := by have := numDb_len ns; rw [← h, List.length_map] at this; exact this
theorem numE_le4 (ns : List UInt8) : 4 * (numE ns).length ≤ ns.length := by unfold numE effsT; simp; omega
/-- the contract of the reference's Answer. -/
def RefAns : Prop := ∀ (f : Fe) (a : Option Addr) (cap : Nat) (ps : List Lp) (qn qe off : Int) (w : World) (hok : f.Ok w) (hP : Prs w a cap ps) (h0 : 0 ≤ f.off) (h1 : f.off ≤ 1152921504606846976) (hn : f.es.length ≤ 400) (hp : ps.length ≤ 100000),
    Calls Try.prog 21 #[f.v, .slice a ps.length cap, .agg #[.int .i64 qn, .int .i64 qe], .int .i64 off] w (MsOut (Fd.answer f.f (Db.all (ps.map Lp.p)) qn qe off) w)
/-- a message's effects are small, few. -/
theorem answer_es {f : Fd.F} {all : List Db.E} {rn re off : Int} (hb : ∀ e ∈ f.back, e.Sm) (ha : ∀ e ∈ all, e.Sm) (hl : all.length ≤ 40) : (∀ e ∈ (Fd.answer f all rn re off).es, e.Sm) ∧ (Fd.answer f all rn re off).es.length ≤ 40 := by
  unfold Fd.answer Fd.part
  split
  · exact ⟨fun e he => hb e (List.mem_of_mem_drop (List.mem_of_mem_take he)), by rw [List.length_take]; omega⟩
  · exact ⟨ha, hl⟩
theorem bytes_take {w : World} {p : Option Addr} {ns : List UInt8} (h : Bytes w p ns) (k : Nat) (hk : k ≤ ns.length) : Bytes w p (ns.take k) := by
  rcases h with h | ⟨b, o, e, hc⟩
  · exact .inl (by rw [h]; simp)
  · refine .inr ⟨b, o, e, fun j hj => ?_⟩
    rw [List.length_take] at hj
    rw [hc j (by omega)]
    congr 3
    simp [List.getD, show j < k by omega]

theorem gotF_len {f : Fd.F} {m : Fd.M} (h1 : f.back.length ≤ 40) (h2 : m.es.length ≤ 40) : (Fd.gotF f m).back.length ≤ 1000000 := by
  have := Fd.last_len (f.back ++ m.es)
  unfold Fd.gotF
  split
  · unfold Fd.onward
    split
    · unfold Fd.add; simp only; omega
    · unfold Fd.add; simp only; omega
  · split
    · simp
    · omega
theorem gotD_len {f : Fd.F} {d : List Db.P} {m : Fd.M} (h1 : d.length ≤ 40) (h2 : m.es.length ≤ 40) : (Fd.gotD f d m).length ≤ 1000000 := by
  unfold Fd.gotD
  split
  · have := app_len m.es d; omega
  · split
    · have := app_len m.es []; simp only [List.length_nil] at this; omega
    · omega

set_option maxRecDepth 100000 in
set_option maxHeartbeats 8000000 in
theorem feedMade_walk (hREF : RefAns) (p : Option Addr) (cap : Nat) (ns : List UInt8) (rid other off far : Int) (w : World) (hB : Bytes w p ns) (hl : ns.length ≤ cap) (hm : ns.length ≤ maxLen) (r0 : 0 ≤ rid) (r1 : rid ≤ 255) (o0 : 0 ≤ other) (o1 : other ≤ 255) (f0 : 0 ≤ off) (f1 : off ≤ 255) (a0 : -128 ≤ far) (a1 : far ≤ 127) :
    Calls Try.prog 4 #[.slice p ns.length cap, .int .u8 rid, .int .u8 other, .int .u8 off, .int .i8 far] w fun e w' => e = .returned (.bool true) ∧ Below w.heap.size w w' := by
  have HAW := Lib.hid (fun W => fe_awake_any W)
  by_cases hbig : 160 < ns.length
  · have k1 : (160 : Int) < (ns.length : Int) := by omega
    clear hB
    go_enter Try.func4, Try.ntmps4
    go_wp2_with fail
    refine (HAW.out _).mono ?_
    rintro e wz ⟨rfl, hb⟩
    have HBZ := Lib.hid hb
    clear hb
    go_wp2_with fail
    go_ret
    exact ⟨rfl, HBZ.out⟩
  have k1 : ¬ (160 : Int) < (ns.length : Int) := by omega
  have HMK := Lib.hid (make15_any p cap ns rid w hB hl (by omega) r0 r1)
  have HBY := Lib.hid hB
  clear hB
  go_enter Try.func4, Try.ntmps4
  go_wp2_with fail
  refine HMK.out.mono ?_
  rintro e w1 ⟨f, da, dc, ds, rfl, hfo, hff, hds, hdn, hdm, hb1⟩
  obtain ⟨w2, hw2⟩ : ∃ w2, w1.alloc (.cells #[.int .i64 f.rn, .int .i64 f.re, .int .i64 f.off, .slice f.a f.es.length f.c, .int .i64 f.pn, .int .i64 f.pe, .int .i64 f.unt] 26) = w2 := ⟨_, rfl⟩
  have hb2 : Below w1.heap.size w1 w2 := by rw [← hw2]; exact (Below.refl _ w1).alloc (Nat.le_refl _) _
  have hx2 : FeBox w2 w1.heap.size f := by rw [← hw2]; exact FeBox.new w1 f
  have h12 := hb1.trans (hb2.mono hb1.size)
  have HX2 := Lib.hid hx2
  have HFO2 := Lib.hid (hfo.later hb2)
  have HDS2 := Lib.hid (hds.later hb2)
  have HDN := Lib.hid hdn
  have HDM := Lib.hid hdm
  have HFF := Lib.hid hff
  have HB2 := Lib.hid h12
  have HW2 := Lib.hid hw2
  have hfob := mk_offb hff
  have hfoe : f.off = ((numE ns).length : Int) := by rw [← mk_off ns rid]; exact congrArg Fd.F.off hff
  have hn4 := numE_le4 ns
  clear hfo hff hds hdn hdm hb1 hw2 hb2 hx2 h12 HMK
  obtain ⟨B, hBB⟩ : ∃ B, B = w1.heap.size := ⟨_, rfl⟩
  rw [← hBB] at HX2
  obtain ⟨rn, re, fo, fa, es, c, pn, pe, unt⟩ := f
  unfold Fe.v
  simp only at HW2 hfob hfoe ⊢
  have HFOE := Lib.hid hfoe
  obtain ⟨kn, hkn⟩ : ∃ kn : Nat, off.tmod (fo + 1) = (kn : Int) := ⟨(off % (fo + 1)).toNat, by rw [Int.tmod_eq_emod_of_nonneg f0]; have := Int.emod_nonneg off (show fo + 1 ≠ 0 by omega); omega⟩
  have hkn2 : off % (fo + 1) = (kn : Int) := by rw [← hkn, Int.tmod_eq_emod_of_nonneg f0]
  have hkb : (kn : Int) ≤ fo := by rw [← hkn2]; have := Int.emod_lt_of_pos off (show 0 < fo + 1 by omega); omega
  have hkl : kn ≤ (numE ns).length := by omega
  have hkq : 4 * kn ≤ ns.length := by omega
  have HKL := Lib.hid (And.intro hkl hkq)
  have wf1 : IntKind.i64.wrap (fo + 1) = fo + 1 := IntWalk.i64_in _ (by omega)
  have wfz : ¬ fo + 1 = 0 := by omega
  have wof : IntKind.i64.wrap off = off := IntWalk.i64_in _ (by omega)
  obtain ⟨q, hq⟩ : ∃ q, 4 * kn = q := ⟨_, rfl⟩
  have wq4 : IntKind.i64.wrap (4 * (kn : Int)) = (q : Int) := by rw [IntWalk.i64_in _ (by omega)]; omega
  have hqc : (q : Int) ≤ (cap : Int) := by omega
  have hq0 : (0 : Int) ≤ (q : Int) := by omega
  have hkmod : IntKind.i64.wrap (kn : Int) = (kn : Int) := IntWalk.i64_in _ (by omega)
  have HM2 := Lib.hid (make15_any p cap (ns.take q) other w2 (bytes_take (HBY.out.later HB2.out) q (by omega)) (by rw [List.length_take]; omega) (by rw [List.length_take]; omega) o0 o1)
  have hql : (ns.take q).length = q := by rw [List.length_take]; omega
  rw [hql] at HM2
  have HQ4 := Lib.hid hq
  clear hfoe hkl hkq hn4 hq hql hkb
  go_upto_region 4 with (fail)
  rw [HW2.out, ← hBB]
  clear hBB
  obtain ⟨⟨-, -, c2, -⟩, -⟩ := HX2.out.at
  simp only at c2
  go_upto_region 5 with (fail)
  clear c2
  go_wp2_with fail
  clear hkn hkn2 wf1 wfz wof wq4 hqc hq0 hkmod
  refine HM2.out.mono ?_
  rintro e w3 ⟨g, oa, oc, os, rfl, hgo, hgf, hos, hon, hom, hb3⟩
  obtain ⟨w4, hw4⟩ : ∃ w4, w3.alloc (.cells #[.int .i64 g.rn, .int .i64 g.re, .int .i64 g.off, .slice g.a g.es.length g.c, .int .i64 g.pn, .int .i64 g.pe, .int .i64 g.unt] 26) = w4 := ⟨_, rfl⟩
  have hb4 : Below w3.heap.size w3 w4 := by rw [← hw4]; exact (Below.refl _ w3).alloc (Nat.le_refl _) _
  have hx4 : FeBox w4 w3.heap.size g := by rw [← hw4]; exact FeBox.new w3 g
  have h34 := hb3.trans (hb4.mono hb3.size)
  have HGX := Lib.hid hx4
  have HFX := Lib.hid (HX2.out.next h34)
  have HFO4 := Lib.hid (HFO2.out.later h34)
  have HDS4 := Lib.hid (HDS2.out.later h34)
  have HGO4 := Lib.hid (hgo.later hb4)
  have HOS4 := Lib.hid (hos.later hb4)
  have HON := Lib.hid hon
  have HOM := Lib.hid hom
  have HGF := Lib.hid hgf
  have HB4 := Lib.hid (HB2.out.trans (h34.mono HB2.out.size))
  have HW4 := Lib.hid hw4
  have hgob := mk_offb hgf
  clear hgo hgf hos hon hom hb3 hw4 hb4 hx4 h34 HM2
  obtain ⟨C, hCC⟩ : ∃ C, C = w3.heap.size := ⟨_, rfl⟩
  rw [← hCC] at HGX
  obtain ⟨grn, gre, go, ga, ges, gc, gpn, gpe, gunt⟩ := g
  unfold Fe.v
  simp only at HW4 hgob ⊢
  obtain ⟨z, hz⟩ : ∃ z, far.tdiv 40 = z := ⟨_, rfl⟩
  have hzb : -4 ≤ z ∧ z ≤ 4 := by
    rw [← hz]
    rcases Int.le_total 0 far with h | h
    · rw [Int.tdiv_eq_ediv_of_nonneg h]; omega
    · have h2 : far.tdiv 40 = -((-far).tdiv 40) := by rw [Int.neg_tdiv, Int.neg_neg]
      rw [h2, Int.tdiv_eq_ediv_of_nonneg (by omega)]; omega
  have wfar : IntKind.i64.wrap far = far := IntWalk.i64_in _ (by omega)
  have wz : IntKind.i64.wrap z = z := IntWalk.i64_in _ (by omega)
  obtain ⟨ao, hao⟩ : ∃ ao, go + z = ao := ⟨_, rfl⟩
  have wao : IntKind.i64.wrap (go + z) = ao := by rw [IntWalk.i64_in _ (by omega), hao]
  have hff := HFF.out
  have hdm := HDM.out
  have hFs := mk_sm hff
  have hFl := mk_len hff
  have hDs := num_sm hdm
  have hDl := num_len hdm
  obtain ⟨A, hA⟩ : ∃ A, Fd.answer (Fe.f ⟨rn, re, fo, fa, es, c, pn, pe, unt⟩) (Db.all (ds.map Lp.p)) grn gre ao = A := ⟨_, rfl⟩
  have haes := answer_es (f := Fe.f ⟨rn, re, fo, fa, es, c, pn, pe, unt⟩) (all := Db.all (ds.map Lp.p)) (rn := grn) (re := gre) (off := ao) (fun e he => by
      obtain ⟨x, hx, rfl⟩ := List.mem_map.1 he
      exact hFs x hx) (fun e he => by
      unfold Db.all at he
      obtain ⟨x, hx, rfl⟩ := List.mem_map.1 he
      obtain ⟨y, hy, rfl⟩ := List.mem_map.1 hx
      exact hDs y hy) (by unfold Db.all; rw [List.length_map, List.length_map]; exact hDl)
  rw [hA] at haes
  have HAE := Lib.hid haes
  have HAN := Lib.hid (answer_any ⟨rn, re, fo, fa, es, c, pn, pe, unt⟩ da dc ds grn gre ao w4 HFO4.out HDS4.out hfob.1 (by simp only; omega) hFs (by simp only at hFl ⊢; omega) (by omega) hDs)
  have HRA := Lib.hid (fun W (h : Below w4.heap.size w4 W) => hREF ⟨rn, re, fo, fa, es, c, pn, pe, unt⟩ da dc ds grn gre ao W (HFO4.out.later h) (HDS4.out.later h) hfob.1 (by simp only; omega) (by simp only at hFl ⊢; omega) (by omega))
  rw [hA] at HAN HRA
  unfold Fe.v at HAN HRA
  simp only at HAN HRA
  clear hA haes hff hdm hFs hFl hDs hDl hao hzb
  go_upto_region 6 with (fail)
  rw [HW4.out, ← hCC]
  clear hCC
  obtain ⟨⟨c0, c1, c2, c3, c4, c5, c6⟩, -⟩ := HFX.out.at
  obtain ⟨⟨g0, g1, g2, g3, g4, g5, g6⟩, -⟩ := HGX.out.at
  simp only at c0 c1 c2 c3 c4 c5 c6 g0 g1 g2 g3 g4 g5 g6
  go_wp2_with fail
  refine HAN.out.mono ?_
  rintro e w5 ⟨ma, mes, mc, rfl, hme, hmn, hmm, hb5⟩
  obtain ⟨w6, hw6⟩ : ∃ w6, w5.alloc (.cells (Ms.ans A.k A.rn A.re A.pn A.pe A.off ma mes mc).cells 31) = w6 := ⟨_, rfl⟩
  have hb6 : Below w5.heap.size w5 w6 := by rw [← hw6]; exact (Below.refl _ w5).alloc (Nat.le_refl _) _
  have hx6 : MsBox w6 w5.heap.size (Ms.ans A.k A.rn A.re A.pn A.pe A.off ma mes mc) := by rw [← hw6]; exact MsBox.new w5 _
  have h46 := hb5.trans (hb6.mono hb5.size)
  have HMX6 := Lib.hid hx6
  have HME6 := Lib.hid (hme.later hb6)
  have HMN := Lib.hid hmn
  have HMM := Lib.hid hmm
  have H46 := Lib.hid h46
  obtain ⟨D, hD⟩ : ∃ D, D = w5.heap.size := ⟨_, rfl⟩
  rw [← hD] at HMX6
  unfold Ms.v Ms.ans Ms.cells
  unfold Ms.ans Ms.cells at hw6
  simp only at hw6 ⊢
  have HW6 := Lib.hid hw6
  clear hme hmn hmm hb5 hw6 hb6 hx6 h46 c0 c1 c2 c3 c4 c5 c6 g0 g1 g2 g3 g4 g5 g6
  obtain ⟨Ak, Arn, Are, Apn, Ape, Ao, Aes⟩ := A
  simp only at HW6 HMX6 HMM HAE ⊢
  go_upto_region 7 with (fail)
  rw [HW6.out, ← hD]
  clear hD
  obtain ⟨⟨c0, c1, c2, c3, c4, c5, c6⟩, -⟩ := (HFX.out.next H46.out).at
  obtain ⟨⟨g0, g1, g2, g3, g4, g5, g6⟩, -⟩ := (HGX.out.next H46.out).at
  simp only at c0 c1 c2 c3 c4 c5 c6 g0 g1 g2 g3 g4 g5 g6
  go_wp2_with fail
  refine (HRA.out w6 H46.out).mono ?_
  rintro e w7 ⟨xa, xes, xc, rfl, hxe, hxn, hxm, hb7⟩
  simp only at hxm ⊢
  obtain ⟨w8, hw8⟩ : ∃ w8, w7.alloc (.cells (Ms.ans Ak Arn Are Apn Ape Ao xa xes xc).cells 31) = w8 := ⟨_, rfl⟩
  have hb8 : Below w7.heap.size w7 w8 := by rw [← hw8]; exact (Below.refl _ w7).alloc (Nat.le_refl _) _
  have hx8 : MsBox w8 w7.heap.size (Ms.ans Ak Arn Are Apn Ape Ao xa xes xc) := by rw [← hw8]; exact MsBox.new w7 _
  have h68 := hb7.trans (hb8.mono hb7.size)
  have h48 := H46.out.trans (h68.mono H46.out.size)
  have HMX8 := Lib.hid (HMX6.out.next h68)
  have HXX8 := Lib.hid hx8
  have HME8 := Lib.hid (HME6.out.later h68)
  have HXE8 := Lib.hid (hxe.later hb8)
  have HXN := Lib.hid hxn
  have HXM := Lib.hid hxm
  have H48 := Lib.hid h48
  obtain ⟨E, hE⟩ : ∃ E, E = w7.heap.size := ⟨_, rfl⟩
  rw [← hE] at HXX8
  unfold Ms.v Ms.ans Ms.cells
  unfold Ms.ans Ms.cells at hw8
  simp only at hw8 ⊢
  have HW8 := Lib.hid hw8
  clear hxe hxn hxm hb7 hw8 hb8 hx8 h68 h48 c0 c1 c2 c3 c4 c5 c6 g0 g1 g2 g3 g4 g5 g6
  have hae := HAE.out
  have hmm := HMM.out
  have hxm := HXM.out
  have hgf := HGF.out
  have hom := HOM.out
  have hgl := mk_len hgf
  simp only at hgl
  have hol := num_len hom
  have hml : mes.length ≤ 40 := by have h := hae.2; rw [← hmm, List.length_map] at h; exact h
  have hxl : xes.length ≤ 40 := by have h := hae.2; rw [← hxm, List.length_map] at h; exact h
  have hGT := got_any ⟨grn, gre, go, ga, ges, gc, gpn, gpe, gunt⟩ oa oc os (Ms.ans Ak Arn Are Apn Ape Ao ma mes mc) w8 (HGO4.out.later H48.out) (HOS4.out.later H48.out) HON.out ⟨HME8.out, HMN.out⟩ hgob.1 (by simp only; omega) (mk_sm hgf) (fun e he => hae.1 _ (by rw [← hmm]; exact List.mem_map_of_mem he)) (by simp only; omega) (by simp only [Ms.ans]; omega) (by omega) (num_sm hom) (num_asc hom)
  have hRG := fun W (h : Below w8.heap.size w8 W) => refGot_any ⟨grn, gre, go, ga, ges, gc, gpn, gpe, gunt⟩ oa oc os (Ms.ans Ak Arn Are Apn Ape Ao xa xes xc) W (HGO4.out.later (H48.out.trans (h.mono H48.out.size))) (HOS4.out.later (H48.out.trans (h.mono H48.out.size))) HON.out ⟨HXE8.out.later h, HXN.out⟩ hgob.1 (by simp only; omega) (by simp only; omega) (by simp only [Ms.ans]; omega) (by omega)
  have hM1 : (Ms.ans Ak Arn Are Apn Ape Ao ma mes mc).m = ⟨Ak, Arn, Are, Apn, Ape, Ao, Aes⟩ := by unfold Ms.m Ms.ans; simp only [hmm]
  have hM2 : (Ms.ans Ak Arn Are Apn Ape Ao xa xes xc).m = ⟨Ak, Arn, Are, Apn, Ape, Ao, Aes⟩ := by unfold Ms.m Ms.ans; simp only [hxm]
  rw [hM1] at hGT
  rw [hM2] at hRG
  obtain ⟨GF, hGF⟩ : ∃ GF, Fd.gotF (Fe.f ⟨grn, gre, go, ga, ges, gc, gpn, gpe, gunt⟩) ⟨Ak, Arn, Are, Apn, Ape, Ao, Aes⟩ = GF := ⟨_, rfl⟩
  obtain ⟨GD, hGD⟩ : ∃ GD, Fd.gotD (Fe.f ⟨grn, gre, go, ga, ges, gc, gpn, gpe, gunt⟩) (os.map Lp.p) ⟨Ak, Arn, Are, Apn, Ape, Ao, Aes⟩ = GD := ⟨_, rfl⟩
  obtain ⟨GB, hGB⟩ : ∃ GB, Fd.gotB (Fe.f ⟨grn, gre, go, ga, ges, gc, gpn, gpe, gunt⟩) ⟨Ak, Arn, Are, Apn, Ape, Ao, Aes⟩ = GB := ⟨_, rfl⟩
  have hgfl : GF.back.length ≤ 1000000 := by rw [← hGF]; exact gotF_len (by unfold Fe.f; simp only [List.length_map]; omega) (by simp only; omega)
  have hgdl : GD.length ≤ 1000000 := by rw [← hGD]; exact gotD_len (by rw [List.length_map]; omega) (by simp only; omega)
  rw [hGF, hGD, hGB] at hGT hRG
  unfold Fe.v Ms.v Ms.ans Ms.cells at hGT hRG
  simp only at hGT hRG
  have HGT := Lib.hid hGT
  have HRG := Lib.hid hRG
  have HGFL := Lib.hid hgfl
  have HGDL := Lib.hid hgdl
  clear hGT hRG hGF hGD hGB hM1 hM2 hae hmm hxm hgf hom hgl hol hgfl hgdl HAN HRA
  go_upto_region 8 with (fail)
  rw [HW8.out, ← hE]
  clear hE
  obtain ⟨⟨g0, g1, g2, g3, g4, g5, g6⟩, -⟩ := (HGX.out.next H48.out).at
  obtain ⟨m0, m9, m10, m11, m12, m13, m14⟩ := HMX8.out.at
  obtain ⟨m1, m2, m3, m4, m5, m6, m7, m8⟩ := HMX8.out.rest
  simp only [Ms.ans] at g0 g1 g2 g3 g4 g5 g6 m0 m1 m2 m3 m4 m5 m6 m7 m8 m9 m10 m11 m12 m13 m14
  go_wp2_with fail
  refine HGT.out.mono ?_
  rintro e w9 ⟨f1, ua, uc, us, rfl, huo, huf, hus, hun, hum, hb9⟩
  obtain ⟨w10, hw10⟩ : ∃ w10, w9.alloc (.cells #[.int .i64 f1.rn, .int .i64 f1.re, .int .i64 f1.off, .slice f1.a f1.es.length f1.c, .int .i64 f1.pn, .int .i64 f1.pe, .int .i64 f1.unt] 26) = w10 := ⟨_, rfl⟩
  have hb10 : Below w9.heap.size w9 w10 := by rw [← hw10]; exact (Below.refl _ w9).alloc (Nat.le_refl _) _
  have hx10 : FeBox w10 w9.heap.size f1 := by rw [← hw10]; exact FeBox.new w9 f1
  have h8A := hb9.trans (hb10.mono hb9.size)
  have H8A := Lib.hid h8A
  have h4A := H48.out.trans (h8A.mono H48.out.size)
  have H4A := Lib.hid h4A
  have HXA := Lib.hid hx10
  have HOA := Lib.hid (huo.later hb10)
  have HPA := Lib.hid (hus.later hb10)
  have HUF := Lib.hid huf
  have HUM := Lib.hid hum
  obtain ⟨G, hG⟩ : ∃ G, G = w9.heap.size := ⟨_, rfl⟩
  rw [← hG] at HXA
  unfold Fe.v
  simp only
  have HW10 := Lib.hid hw10
  clear huo huf hus hun hum hb9 hb10 hw10 hx10 h8A h4A g0 g1 g2 g3 g4 g5 g6 m0 m1 m2 m3 m4 m5 m6 m7 m8 m9 m10 m11 m12 m13 m14
  go_upto_region 9 with (fail)
  rw [HW10.out, ← hG]
  clear hG
  obtain ⟨⟨g0, g1, g2, g3, g4, g5, g6⟩, -⟩ := (HGX.out.next H4A.out).at
  have HMXA := Lib.hid (HMX8.out.next H8A.out)
  have HXXA := Lib.hid (HXX8.out.next H8A.out)
  obtain ⟨m0, m9, m10, m11, m12, m13, m14⟩ := HXXA.out.at
  obtain ⟨m1, m2, m3, m4, m5, m6, m7, m8⟩ := HXXA.out.rest
  simp only [Ms.ans] at g0 g1 g2 g3 g4 g5 g6 m0 m1 m2 m3 m4 m5 m6 m7 m8 m9 m10 m11 m12 m13 m14
  go_wp2_with fail
  refine (HRG.out w10 H8A.out).mono ?_
  rintro e w11 ⟨f2, ra, rc, rs, rfl, hro, hrf, hrs, hrn, hrm, hb11⟩
  obtain ⟨w12, hw12⟩ : ∃ w12, w11.alloc (.cells #[.int .i64 f2.rn, .int .i64 f2.re, .int .i64 f2.off, .slice f2.a f2.es.length f2.c, .int .i64 f2.pn, .int .i64 f2.pe, .int .i64 f2.unt, .slice ra rs.length rc, .bool GB] 39) = w12 := ⟨_, rfl⟩
  have hb12 : Below w11.heap.size w11 w12 := by rw [← hw12]; exact (Below.refl _ w11).alloc (Nat.le_refl _) _
  have hx12 : FdB w12 w11.heap.size f2 ra rs.length rc GB := by rw [← hw12]; exact World.alloc_heap_new w11 _
  have hAC := hb11.trans (hb12.mono hb11.size)
  have HAC := Lib.hid hAC
  have HXC := Lib.hid hx12
  have HMXC := Lib.hid (HMXA.out.next hAC)
  have HXXC := Lib.hid (HXXA.out.next hAC)
  have HF1C := Lib.hid (HXA.out.next hAC)
  have HOC := Lib.hid (HOA.out.later hAC)
  have HPC := Lib.hid (HPA.out.later hAC)
  have HROC := Lib.hid (hro.later hb12)
  have HRPC := Lib.hid (hrs.later hb12)
  have h8C := H8A.out.trans (hAC.mono H8A.out.size)
  have HMEC := Lib.hid (HME8.out.later h8C)
  have HXEC := Lib.hid (HXE8.out.later h8C)
  have HFIN := Lib.hid (HB4.out.trans ((H48.out.trans (h8C.mono H48.out.size)).mono HB4.out.size))
  have h1l : f1.es.length ≤ 1000000 := by have h := HGFL.out; rw [← HUF.out] at h; simpa [Fe.f] using h
  have h2l : f2.es.length ≤ 1000000 := by have h := HGFL.out; rw [← hrf] at h; simpa [Fe.f] using h
  have h3l : us.length ≤ 1000000 := by have h := HGDL.out; rw [← HUM.out, List.length_map] at h; exact h
  have h4l : rs.length ≤ 1000000 := by have h := HGDL.out; rw [← hrm, List.length_map] at h; exact h
  have HSM := Lib.hid (fun W (h : Below w12.heap.size w12 W) => sameMsg_any Ak Arn Are Apn Ape Ao ma mes mc xa xes xc W (HMEC.out.later h) (HXEC.out.later h) (by omega) (by omega) (HMM.out.trans HXM.out.symm))
  have HSF := Lib.hid (fun W (h : Below w12.heap.size w12 W) => refSameFeed_any f1 f2 W (HOC.out.later h) (HROC.out.later h) h1l h2l)
  have HSS := Lib.hid (fun W (h : Below w12.heap.size w12 W) => sameSpace_any ua uc us ra rc rs W (HPC.out.later h) (HRPC.out.later h) h3l h4l)
  rw [HUF.out, hrf, Fd.same_refl] at HSF
  rw [HUM.out, hrm, fe_sameS] at HSS
  obtain ⟨H, hH⟩ : ∃ H, H = w11.heap.size := ⟨_, rfl⟩
  rw [← hH] at HXC
  unfold fedV
  obtain ⟨frn, fre, foff, fa1, fes, fc1, fpn, fpe, funt⟩ := f1
  obtain ⟨krn, kre, koff, ka1, kes, kc1, kpn, kpe, kunt⟩ := f2
  unfold Fe.v at HSF
  unfold Ms.v Ms.ans Ms.cells at HSM
  simp only at HSF HSM hw12 ⊢
  have HW12 := Lib.hid hw12
  clear hro hrf hrs hrn hrm hb11 hb12 hw12 hx12 hAC h8C h1l h2l h3l h4l g0 g1 g2 g3 g4 g5 g6 m0 m1 m2 m3 m4 m5 m6 m7 m8 m9 m10 m11 m12 m13 m14 HRG HGT
  go_upto_region 10 with (fail)
  rw [HW12.out, ← hH]
  clear hH
  obtain ⟨m0, m9, m10, m11, m12, m13, m14⟩ := HMXC.out.at
  obtain ⟨m1, m2, m3, m4, m5, m6, m7, m8⟩ := HMXC.out.rest
  obtain ⟨n0, n9, n10, n11, n12, n13, n14⟩ := HXXC.out.at
  obtain ⟨n1, n2, n3, n4, n5, n6, n7, n8⟩ := HXXC.out.rest
  simp only [Ms.ans] at m0 m1 m2 m3 m4 m5 m6 m7 m8 m9 m10 m11 m12 m13 m14 n0 n1 n2 n3 n4 n5 n6 n7 n8 n9 n10 n11 n12 n13 n14
  go_wp2_with fail
  clear m0 m1 m2 m3 m4 m5 m6 m7 m8 m9 m10 m11 m12 m13 m14 n0 n1 n2 n3 n4 n5 n6 n7 n8 n9 n10 n11 n12 n13 n14
  refine (HSM.out _ (Below.refl _ _)).mono ?_
  rintro e w13 ⟨rfl, hb13⟩
  obtain ⟨⟨g0, g1, g2, g3, g4, g5, g6⟩, -⟩ := (HF1C.out.next hb13).at
  obtain ⟨⟨c0, c1, c2, c3, c4, c5, c6, c7, c8⟩, -⟩ := (HXC.out.next hb13).at
  have HS1 := Lib.hid hb13
  simp only at c0 c1 c2 c3 c4 c5 c6 c7 c8 g0 g1 g2 g3 g4 g5 g6
  clear hb13
  go_wp2_with fail
  clear c0 c1 c2 c3 c4 c5 c6 c7 c8 g0 g1 g2 g3 g4 g5 g6
  refine (HSF.out _ HS1.out).mono ?_
  rintro e w14 ⟨rfl, hb14⟩
  have HS2 := Lib.hid (HS1.out.trans (hb14.mono HS1.out.size))
  clear hb14
  obtain ⟨⟨-, -, -, -, -, -, -, c7, c8⟩, -⟩ := (HXC.out.next HS2.out).at
  go_wp2_with fail
  clear c7 c8
  refine (HSS.out _ HS2.out).mono ?_
  rintro e w15 ⟨rfl, hb15⟩
  have HS3 := Lib.hid (HS2.out.trans (hb15.mono HS2.out.size))
  clear hb15
  obtain ⟨⟨-, -, -, -, -, -, -, c7, c8⟩, -⟩ := (HXC.out.next HS3.out).at
  go_wp2_with fail
  clear c7 c8
  refine (HAW.out _).mono ?_
  rintro e w16 ⟨rfl, hb16⟩
  have HS4 := Lib.hid (HS3.out.trans (hb16.mono HS3.out.size))
  clear hb16
  go_wp2_with fail
  go_ret
  exact ⟨rfl, HFIN.out.trans (HS4.out.mono HFIN.out.size)⟩
end Go.Proofs.Ytihleddhjmejoaa
