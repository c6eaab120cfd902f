/- The contract of the law's Make: a feed and its space by numbers (15). -/
import Derived.Test.YtihleddhjmejoaaMD44
import Derived.Test.YtihleddhjmejoaaMD48
import Derived.Test.YtihleddhjmejoaaMD06
namespace Go.Proofs.Ytihleddhjmejoaa
open Go.RowKit Go.Shelf
attribute [local go_sem] Oper.semAt_some
set_option linter.unusedVariables false
set_option linter.unusedSimpArgs false

theorem fe_results2 {fn : Func} {t u : Tmp} {T : TypeId} (h : fn.results = #[.cell t T, .tmp u]) {tmps : Array Value} {P : Program} {w : World} {p : Addr} {v : Value} (hp : tmps.getD t undef = .pointer (some p)) (hl : (loadVar T p).run P w = .ok v w) :
    (results fn tmps).run P w = .ok (.tuple #[v, tmps.getD u undef]) w := by
  have hp' : tmps[t]?.getD undef = .pointer (some p) := by simpa using hp
  simp [results, h, hp', hl, asAddr]
/-- the feed of numbers, plainly. -/
def mkFd (ns : List UInt8) (r : Int) : Fd.F := Fd.add ⟨r % 4, r / 64, 0, [], 0, 0, 0⟩ (numE ns)
def MkOut (ns : List UInt8) (r : Int) (w : World) (e : Ending) (W : World) : Prop :=
  ∃ (g : Fe) (a : Option Addr) (cap : Nat) (ps : List Lp), e = .returned (.tuple #[g.v, .slice a ps.length cap]) ∧ g.Ok W ∧ g.f = mkFd ns r ∧ Prs W a cap ps ∧ (a = none → cap = 0) ∧ ps.map Lp.p = numDb ns ∧ Below w.heap.size w W

set_option maxRecDepth 100000 in
set_option maxHeartbeats 4000000 in
theorem make15_any (p : Option Addr) (cap : Nat) (ns : List UInt8) (r : Int) (w : World) (hB : Bytes w p ns) (hl : ns.length ≤ cap) (hc : ns.length ≤ 1000) (r0 : 0 ≤ r) (r1 : r ≤ 255) :
    Calls Try.prog 24 #[.slice p ns.length cap, .int .u8 r] w (MkOut ns r w) := by
  obtain ⟨w1, hw1⟩ : ∃ w1, w.alloc (.cells #[.int .i64 0, .int .i64 0, .int .i64 0, .slice none 0 0, .int .i64 0, .int .i64 0, .int .i64 0] 26) = w1 := ⟨_, rfl⟩
  have hb1 : Below w.heap.size w w1 := by rw [← hw1]; exact (Below.refl _ w).alloc (Nat.le_refl _) _
  have hz1 : FeBox w1 w.heap.size Fe.zero := by rw [← hw1]; exact Fe.zero_new w
  have HEF := Lib.hid (efs_any p cap ns w1 (hB.later hb1) hl hc)
  have HW := Lib.hid hw1
  have HB := Lib.hid hb1
  have HZ := Lib.hid hz1
  have hnl := numE_len ns
  obtain ⟨y4, hy4⟩ : ∃ y, r.tmod 4 = y := ⟨_, rfl⟩
  obtain ⟨y64, hy64⟩ : ∃ y, r.tdiv 64 = y := ⟨_, rfl⟩
  have hm4 : r % 4 = y4 := by rw [← hy4, Int.tmod_eq_emod_of_nonneg r0]
  have hm64 : r / 64 = y64 := by rw [← hy64, Int.tdiv_eq_ediv_of_nonneg r0]
  have hwr : IntKind.i64.wrap r = r := IntWalk.i64_in _ (by omega)
  have hw64 : IntKind.i64.wrap y64 = y64 := IntWalk.i64_in _ (by omega)
  have HMK : Hid (mkFd ns r = Fd.add (Fe.f ⟨y4, y64, 0, none, [], 0, 0, 0, 0⟩) (numE ns)) := Lib.hid (by unfold mkFd Fe.f; rw [hm4, hm64]; rfl)
  clear hw1 hb1 hz1 hB
  obtain ⟨B, hB⟩ : ∃ B, B = w.heap.size := ⟨_, rfl⟩
  rw [← hB] at HZ
  have HBB := Lib.hid hB
  go_enter Try.func24, Try.ntmps24
  go_upto_region 1 with (fail)
  rw [HW.out, ← hB]
  clear hB
  go_wp2_with fail
  refine HEF.out.mono ?_
  rintro e w2 ⟨b, cb, ls, rfl, hls, hnb, hq, hb2⟩
  have hln : ls.length ≤ 40 := by rw [← hq, List.length_map] at hnl; exact hnl
  have HAD := Lib.hid (refAdd_any ⟨y4, y64, 0, none, [], 0, 0, 0, 0⟩ b cb ls w2 ⟨efs_nil _, fun _ => rfl⟩ hls hnb (by simp) (by simp) (by simp) (by omega))
  rw [hq, ← HMK.out] at HAD
  unfold Fe.v at HAD
  simp only [List.length_nil] at HAD
  have HLS := Lib.hid hls
  have HNB := Lib.hid hnb
  have HQ := Lib.hid hq
  have HB2 := Lib.hid (HB.out.trans (hb2.mono HB.out.size))
  have HZ2 := Lib.hid (HZ.out.next hb2)
  clear hls hnb hq hb2 HEF
  go_wp2_with fail
  refine HAD.out.mono ?_
  rintro e w3 ⟨g, rfl, hgo, hgf, hb3⟩
  obtain ⟨w4, hw4⟩ : ∃ w4, w3.alloc (.cells #[.int .i64 g.rn, .int .i64 g.re, .int .i64 g.off, .slice g.a g.es.length g.c, .int .i64 g.pn, .int .i64 g.pe, .int .i64 g.unt] 26) = w4 := ⟨_, rfl⟩
  have hb4 : Below w3.heap.size w3 w4 := by rw [← hw4]; exact (Below.refl _ w3).alloc (Nat.le_refl _) _
  have hx4 : FeBox w4 w3.heap.size g := by rw [← hw4]; exact FeBox.new w3 g
  have h34 := hb3.trans (hb4.mono hb3.size)
  have HX4 := Lib.hid hx4
  have HZ4 := Lib.hid (HZ2.out.next h34)
  have HB4 := Lib.hid (HB2.out.trans (h34.mono HB2.out.size))
  have HGO := Lib.hid (hgo.later hb4)
  have HGF := Lib.hid hgf
  have HW4 := Lib.hid hw4
  have HAP := Lib.hid (fun W (h : Below w4.heap.size w4 W) => refApply_any none 0 [] b cb ls W (prs_nil W) ((HLS.out.later h34).later h) (by simp) (by omega) (fun _ => rfl))
  have hz3 := hb3.size
  have hzl := HZ2.out.lt
  clear hgo hgf hb3 hw4 hb4 hx4 h34
  obtain ⟨C, hC⟩ : ∃ C, C = w3.heap.size := ⟨_, rfl⟩
  rw [← hC] at HX4
  have hCB : B < C := by omega
  obtain ⟨grn, gre, goff, ga, ges, gc, gpn, gpe, gunt⟩ := g
  unfold Fe.v
  simp only at HW4 ⊢
  go_upto_region 3 with (fail)
  rw [HW4.out, ← hC]
  clear hC
  obtain ⟨⟨c0, c1, c2, c3, c4, c5, c6⟩, -⟩ := HX4.out.at
  simp only at c0 c1 c2 c3 c4 c5 c6
  have hCl := HX4.out.lt
  have HS0 : Below w4.heap.size w4 w4.drew := (Below.refl _ w4).drew
  have HK0 : Keeps (fun k => k ≠ B) w4 w4.drew := (Keeps.refl _ w4).drew
  refine wp_region_L (S := fun W => Keeps (fun k => k ≠ B) w4 W) (f := 5) (by kernel_rfl) ?_
  refine wpAnyL_take (i := 0) (some 20) (v := .agg #[.int .i64 grn, .int .i64 gre, .int .i64 goff, .slice ga ges.length gc, .int .i64 gpn, .int .i64 gpe, .int .i64 gunt]) rfl rfl (by kernel_rfl) (by kernel_rfl) (by kernel_rfl) (by kernel_rfl) (fun _ _ _ h => h) (by rfl) (fun W hS => ?_) HK0 ?_
  · have m0 := (hS.cell (p := ⟨C, 0, none⟩) hCl (by show C ≠ B; omega)).trans c0
    have m1 := (hS.cell (p := ⟨C, 1, none⟩) hCl (by show C ≠ B; omega)).trans c1
    have m2 := (hS.cell (p := ⟨C, 2, none⟩) hCl (by show C ≠ B; omega)).trans c2
    have m3 := (hS.cell (p := ⟨C, 3, none⟩) hCl (by show C ≠ B; omega)).trans c3
    have m4 := (hS.cell (p := ⟨C, 4, none⟩) hCl (by show C ≠ B; omega)).trans c4
    have m5 := (hS.cell (p := ⟨C, 5, none⟩) hCl (by show C ≠ B; omega)).trans c5
    have m6 := (hS.cell (p := ⟨C, 6, none⟩) hCl (by show C ≠ B; omega)).trans c6
    go_simp
  try simp only [Act.put, List.setIfInBounds_toArray, List.set_cons_zero, List.set_cons_succ]
  refine wpAnyL_take (i := 1) (some 21) (v := .slice b ls.length cb) rfl rfl (by kernel_rfl) (by kernel_rfl) (by kernel_rfl) (by kernel_rfl) (fun _ _ _ h => h) (by rfl) (fun W hS => ?_) HK0 ?_
  · go_simp
  try simp only [Act.put, List.setIfInBounds_toArray, List.set_cons_zero, List.set_cons_succ]
  refine wpAnyL_one (j := 2) (by kernel_rfl) rfl (by rfl) (fun K hK => ?_)
  go_simp
  refine (HAP.out _ HS0).mono ?_
  rintro e v2 ⟨a2, c2', qs, rfl, hq, hqn, hqm, hb2⟩
  have HD2 := HS0.trans (hb2.mono HS0.size)
  have HS2 : Keeps (fun k => k ≠ B) w4 v2 := Keeps.of_below HD2 fun k hk _ => hk
  have hz := HZ4.out.next HD2
  have HZ5 := Lib.hid hz
  have HFF : Hid (FeBox (stFe v2 B ⟨grn, gre, goff, ga, ges, gc, gpn, gpe, gunt⟩) B ⟨grn, gre, goff, ga, ges, gc, gpn, gpe, gunt⟩ ∧ MkOut ns r w (.returned (.tuple #[Fe.v ⟨grn, gre, goff, ga, ges, gc, gpn, gpe, gunt⟩, .slice a2 qs.length c2'])) (stFe v2 B ⟨grn, gre, goff, ga, ges, gc, gpn, gpe, gunt⟩)) := Lib.hid
    ⟨hz.store _, ⟨grn, gre, goff, ga, ges, gc, gpn, gpe, gunt⟩, a2, c2', qs, rfl, (HGO.out.later HD2).keepT (stFe_T hz _), HGF.out, hq.keepT (stFe_T hz _), hqn, by rw [hqm, HQ.out]; rfl, stFe_below (HB4.out.trans (HD2.mono HB4.out.size)) (by rw [HBB.out]; exact Nat.le_refl _) _⟩
  clear hq hqn hqm hb2 HD2 hz
  refine hK _ _ (fun _ => HS2) ?_
  clear hK K
  try simp only [Act.put, List.setIfInBounds_toArray, List.set_cons_zero, List.set_cons_succ]
  refine wpAnyL_one (j := 3) (by kernel_rfl) rfl (by rfl) (fun K hK => ?_)
  obtain ⟨⟨q0, q1, q2, q3, q4, q5, q6⟩, z0, z1, z2, z3, z4, z5, z6⟩ := HZ5.out.at
  simp only [Fe.zero, List.length_nil] at q0 q1 q2 q3 q4 q5 q6
  go_simp
  have HS3 : Keeps (fun k => k ≠ B) w4 (stFe v2 B ⟨grn, gre, goff, ga, ges, gc, gpn, gpe, gunt⟩) := stFe_keeps HS2 (.inr (by simp)) _
  clear q0 q1 q2 q3 q4 q5 q6 z0 z1 z2 z3 z4 z5 z6
  unfold stFe at HS3
  simp only at HS3
  refine hK _ _ (fun _ => HS3) ?_
  clear hK K
  try simp only [Act.put, List.setIfInBounds_toArray, List.set_cons_zero, List.set_cons_succ]
  refine wpAnyL_take (i := 4) (some 5) (v := .slice a2 qs.length c2') rfl rfl (by kernel_rfl) (by kernel_rfl) (by kernel_rfl) (by kernel_rfl) (fun _ _ _ h => h) (by rfl) (fun W hS => ?_) HS3 ?_
  · go_simp
  try simp only [Act.put, List.setIfInBounds_toArray, List.set_cons_zero, List.set_cons_succ]
  refine wpAnyL_done (by kernel_rfl) ?_ _
  unfold Fe.v at HFF
  simp only at HFF
  clear HK0 HS0 HS2 HS3 c0 c1 c2 c3 c4 c5 c6
  go_wp2_with fail
  refine bodyPost_ret (fe_results2 rfl rfl (loadFe HFF.out.1)) rfl ?_
  exact HFF.out.2
end Go.Proofs.Ytihleddhjmejoaa
