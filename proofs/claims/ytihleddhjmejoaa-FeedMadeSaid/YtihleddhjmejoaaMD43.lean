/- The contract of the program's Got (15.3). -/
import Derived.Test.YtihleddhjmejoaaMD42
import Derived.Test.YtihleddhjmejoaaMD34
namespace Go.Proofs.Ytihleddhjmejoaa
open Go.RowKit Go.Shelf
attribute [local go_sem] Oper.semAt_some
set_option linter.unusedVariables false
set_option linter.unusedSimpArgs false

theorem fe_results3 {fn : Func} {t u s : Tmp} {T : TypeId} (h : fn.results = #[.cell t T, .tmp u, .tmp s]) {tmps : Array Value} {P : Program} {w : World} {p : Addr} {v : Value} (hp : tmps.getD t undef = .pointer (some p)) (hl : (loadVar T p).run P w = .ok v w) :
    (results fn tmps).run P w = .ok (.tuple #[v, tmps.getD u undef, tmps.getD s undef]) w := by
  have hp' : tmps[t]?.getD undef = .pointer (some p) := by simpa using hp
  simp [results, h, hp', hl, asAddr]
/-- what Got tells. -/
def GotOutF (f : Fd.F) (db : List Db.P) (b : Bool) (w : World) (e : Ending) (W : World) : Prop :=
  ∃ (g : Fe) (a : Option Addr) (cap : Nat) (ps : List Lp), e = .returned (.tuple #[g.v, .slice a ps.length cap, .bool b]) ∧ g.Ok W ∧ g.f = f ∧ Prs W a cap ps ∧ (a = none → cap = 0) ∧ ps.map Lp.p = db ∧ Below w.heap.size w W

set_option maxRecDepth 100000 in
set_option maxHeartbeats 4000000 in
theorem got_any (f : Fe) (a : Option Addr) (cap : Nat) (ps : List Lp) (m : Ms) (w : World) (hok : f.Ok w) (hP : Prs w a cap ps) (ha : a = none → cap = 0) (hmo : m.Ok w) (h0 : 0 ≤ f.off) (h1 : f.off ≤ 1152921504606846976) (hsm : ∀ e ∈ f.es, e.e.Sm) (hms : ∀ e ∈ m.es, e.e.Sm) (hn : f.es.length ≤ 64) (hm : m.es.length ≤ 400)
    (hp : ps.length ≤ 100000) (hps : ∀ p ∈ ps, p.p.Sm) (hu : AscL ps) :
    Calls Try.prog 14 #[f.v, .slice a ps.length cap, m.v] w (GotOutF (Fd.gotF f.f m.m) (Fd.gotD f.f (ps.map Lp.p) m.m) (Fd.gotB f.f m.m) w) := by
  obtain ⟨w3, hw3⟩ : ∃ w3, ((w.alloc (.cells #[.int .i64 f.rn, .int .i64 f.re, .int .i64 f.off, .slice f.a f.es.length f.c, .int .i64 f.pn, .int .i64 f.pe, .int .i64 f.unt] 26)).alloc (.cells #[.int .i64 m.k, .int .i64 m.fr, .int .i64 m.tt, .int .i64 m.ep, .slice m.aC m.nC m.cC, .slice m.aN m.nN m.cN, .int .i64 m.nd, .int .i64 m.sl, .int .i64 m.nu, .int .i64 m.rn, .int .i64 m.re, .int .i64 m.pn, .int .i64 m.pe, .int .i64 m.off, .slice m.a m.es.length m.c] 31)).alloc (.cells #[.int .i64 0, .int .i64 0, .int .i64 0, .slice none 0 0, .int .i64 0, .int .i64 0, .int .i64 0] 26) = w3 := ⟨_, rfl⟩
  have hb3 : Below w.heap.size w w3 := by rw [← hw3]; exact (((Below.refl _ w).alloc (Nat.le_refl _) _).alloc (by simp) _).alloc (by first | (simp; done) | (simp; omega)) _
  have hx3 : FeBox w3 w.heap.size f := by
    rw [← hw3]
    exact (Below.heap_alloc _ _ _ (by first | (simp; done) | (simp; omega))).trans ((Below.heap_alloc _ _ _ (by simp)).trans (FeBox.new w f))
  have hm3 : MsBox w3 (w.heap.size + 1) m := by
    rw [← hw3]
    refine (Below.heap_alloc _ _ _ (by simp)).trans ?_
    have := MsBox.new (w.alloc f.o) m
    rwa [World.size_alloc] at this
  have hz3 : FeBox w3 (w.heap.size + 1 + 1) Fe.zero := by
    rw [← hw3]
    have := Fe.zero_new ((w.alloc f.o).alloc (.cells #[.int .i64 m.k, .int .i64 m.fr, .int .i64 m.tt, .int .i64 m.ep, .slice m.aC m.nC m.cC, .slice m.aN m.nN m.cN, .int .i64 m.nd, .int .i64 m.sl, .int .i64 m.nu, .int .i64 m.rn, .int .i64 m.re, .int .i64 m.pn, .int .i64 m.pe, .int .i64 m.off, .slice m.a m.es.length m.c] 31))
    rwa [World.size_alloc, World.size_alloc] at this
  have HW := Lib.hid hw3
  have HX := Lib.hid hx3
  have HM := Lib.hid hm3
  have HZ := Lib.hid hz3
  have HB := Lib.hid hb3
  have HON := Lib.hid (fun W (h : Below w3.heap.size w3 W) => onward_any f m W ((hok.later hb3).later h) ((hmo.later hb3).later h) h0 h1 hsm hms (by omega) hm)
  have HAP := Lib.hid (fun W (h : Below w3.heap.size w3 W) => sps_any a cap ps m.a m.c m.es W ((hP.later hb3).later h) ((hmo.later hb3).later h).1 hp (by omega) ha hu hps hms)
  have HA0 := Lib.hid (fun W (h : Below w3.heap.size w3 W) => sps_any none 0 [] m.a m.c m.es W (prs_nil W) ((hmo.later hb3).later h).1 (by simp) (by omega) (fun _ => rfl) (fun i j h h2 => by simp at h2) (by simp) hms)
  have HAN := Lib.hid (fun W (h : Below w3.heap.size w3 W) => sps_any a cap ps none 0 [] W ((hP.later hb3).later h) (efs_nil W) hp (by simp) ha hu hps (by simp))
  have HAD := Lib.hid (fun W (h : Below w3.heap.size w3 W) => add_any f none 0 [] W ((hok.later hb3).later h) (efs_nil W) (fun _ => rfl) h0 h1 hsm (by simp) (by omega) (by simp))
  have HSU := Lib.hid (fun W => sup_any m f W)
  obtain ⟨b1, hb1⟩ : ∃ b, (decide (m.pn = f.rn) && decide (m.pe = f.re)) = b := ⟨_, rfl⟩
  have HE1 : Hid (∀ w, (binOp .eql 23 (.agg #[.int .i64 m.pn, .int .i64 m.pe]) (.agg #[.int .i64 f.rn, .int .i64 f.re])).run Try.prog w = .ok (.bool b1) w) := Lib.hid fun w => by rw [rid_eql, hb1]
  obtain ⟨ON, hON⟩ : ∃ b, Fd.onB f.f m.m = b := ⟨_, rfl⟩
  have HO : Hid ((decide (m.k = 5) && b1 && decide (m.off = f.off)) = ON) := Lib.hid (by rw [← hON, ← hb1]; rfl)
  obtain ⟨SU, hSU⟩ : ∃ b, Fd.sup f.f m.m = b := ⟨_, rfl⟩
  obtain ⟨FU, hFU⟩ : ∃ b, Fd.fullB f.f m.m = b := ⟨_, rfl⟩
  have HFU : Hid ((decide (m.k = 6) && SU) = FU) := Lib.hid (by rw [← hFU, ← hSU]; rfl)
  rw [hSU] at HSU
  obtain ⟨RF, hRF⟩ : ∃ R, Fd.gotF f.f m.m = R := ⟨_, rfl⟩
  obtain ⟨RD, hRD⟩ : ∃ R, Fd.gotD f.f (ps.map Lp.p) m.m = R := ⟨_, rfl⟩
  obtain ⟨RB, hRB⟩ : ∃ R, Fd.gotB f.f m.m = R := ⟨_, rfl⟩
  have HRF : Hid (RF = if ON = true then Fd.onward f.f m.m else if FU = true then ⟨m.rn, m.re, m.off, [], 0, 0, 0⟩ else f.f) := Lib.hid (by rw [← hRF, ← hON, ← hFU]; rfl)
  have HRD : Hid (RD = if ON = true then Db.app (ps.map Lp.p) (m.es.map Le.e) else if FU = true then Db.app [] (m.es.map Le.e) else ps.map Lp.p) := Lib.hid (by rw [← hRD, ← hON, ← hFU]; rfl)
  have HRB : Hid (RB = (ON || FU)) := Lib.hid (by rw [← hRB, ← hON, ← hFU]; rfl)
  have HNIL : Hid (Fd.add f.f [] = f.f) := Lib.hid (Fd.add_nil (by unfold Fe.f; simpa using hn))
  rw [hRF, hRD, hRB]
  clear hw3 hx3 hm3 hz3 hb3 hok hP hmo hsm hms hb1 hON hSU hFU hRF hRD hRB hps hu
  obtain ⟨k, fr, tt, ep, aC, nC, cC, aN, nN, cN, nd, sl, nu, mrn, mre, mpn, mpe, moff, ma, mes, mc⟩ := m
  obtain ⟨rn, re, off, fa, es, c, pn, pe, unt⟩ := f
  unfold Fe.v Ms.v Ms.cells at *
  simp only [List.length_nil] at HO HE1 HW HFU HON HAP HA0 HAN HAD HSU HRF HRD ⊢
  obtain ⟨B, hB⟩ : ∃ B, B = w.heap.size := ⟨_, rfl⟩
  rw [← hB] at HX HM HZ
  have HBB := Lib.hid hB
  go_enter Try.func14, Try.ntmps14
  go_upto_region 1 with (fail)
  rw [HW.out, ← hB]
  clear hB
  have fin : ∀ (W : World) (g : Fe), Below w3.heap.size w3 W → g.Ok W → g.f = RF → ∀ a2 c2 qs, Prs W a2 c2 qs → (a2 = none → c2 = 0) → qs.map Lp.p = RD → FeBox (stFe W (B + 1 + 1) g) (B + 1 + 1) g ∧ GotOutF RF RD RB w (.returned (.tuple #[g.v, .slice a2 qs.length c2, .bool RB])) (stFe W (B + 1 + 1) g) := fun W g hb h1 h2 a2 c2 qs h3 h4 h5 => by
    have hz := HZ.out.next hb
    have hT := stFe_T hz g
    have hzl := HBB.out
    exact ⟨hz.store g, g, a2, c2, qs, rfl, h1.keepT hT, h2, h3.keepT hT, h4, h5, stFe_below (HB.out.trans (hb.mono HB.out.size)) (by omega) _⟩
  have FIN := Lib.hid fin
  clear fin
  have hBl := HX.out.lt
  have hMl := HM.out.lt
  obtain ⟨x0, x9, x10, x11, x12, x13, x14⟩ := HM.out.at
  obtain ⟨x1, x2, x3, x4, x5, x6, x7, x8⟩ := HM.out.rest
  obtain ⟨⟨y0, y1, y2, y3, y4, y5, y6⟩, -⟩ := HX.out.at
  simp only at x0 x1 x2 x3 x4 x5 x6 x7 x8 x9 x10 x11 x12 x13 x14 y0 y1 y2 y3 y4 y5 y6
  go_cut [9] (fun s W => s = .bool ON ∧ W = w3)
  case first =>
    have e1 := HE1.out
    by_cases hk : k = 5
    rotate_left
    · have hs : ON = false := by have := HO.out; simpa [hk] using this.symm
      subst hs
      have hk2 : (k == 5) = false := by simpa using hk
      go_wp2_with fail
      go_meet
      case rel => exact ⟨rfl, rfl⟩
    subst hk
    cases b1 with
    | false =>
      have hs : ON = false := by have := HO.out; simpa using this.symm
      subst hs
      go_wp2_with fail
      go_meet
      case rel => exact ⟨rfl, rfl⟩
    | true =>
      by_cases ho : moff = off
      · have hs : ON = true := by have := HO.out; simpa [ho] using this.symm
        subst hs
        subst ho
        go_wp2_with fail
        go_meet
        case rel => exact ⟨rfl, rfl⟩
      · have hs : ON = false := by have := HO.out; simpa [ho] using this.symm
        subst hs
        have ho2 : (moff == off) = false := by simpa using ho
        go_wp2_with fail
        go_meet
        case rel => exact ⟨rfl, rfl⟩
  case rest =>
    obtain ⟨rfl, rfl⟩ := hcut
    obtain ⟨wb, rfl⟩ : ∃ wb : World, wb = wc := ⟨_, rfl⟩
    have HS0 : Keeps (fun k => k ≠ B + 1 + 1) wb wb.drew := (Keeps.refl _ _).drew
    have HD0 : Below wb.heap.size wb wb.drew := (Below.refl _ wb).drew
    cases ON with
    | true =>
      have hrb : RB = true := by rw [HRB.out]; rfl
      subst hrb
      go_wp2_with fail
      refine wp_region_L (S := fun W => Keeps (fun k => k ≠ B + 1 + 1) wb W) (f := 10) (by kernel_rfl) ?_
      refine wpAnyL_take (i := 0) (some 27) (v := .agg #[.int .i64 rn, .int .i64 re, .int .i64 off, .slice fa es.length c, .int .i64 pn, .int .i64 pe, .int .i64 unt]) rfl rfl (by kernel_rfl) (by kernel_rfl) (by kernel_rfl) (by kernel_rfl) (fun _ _ _ h => h) (by rfl) (fun W hS => ?_) HS0 ?_
      · have m0 := (hS.cell (p := ⟨B, 0, none⟩) hBl (by simp; omega)).trans y0
        have m1 := (hS.cell (p := ⟨B, 1, none⟩) hBl (by simp; omega)).trans y1
        have m2 := (hS.cell (p := ⟨B, 2, none⟩) hBl (by simp; omega)).trans y2
        have m3 := (hS.cell (p := ⟨B, 3, none⟩) hBl (by simp; omega)).trans y3
        have m4 := (hS.cell (p := ⟨B, 4, none⟩) hBl (by simp; omega)).trans y4
        have m5 := (hS.cell (p := ⟨B, 5, none⟩) hBl (by simp; omega)).trans y5
        have m6 := (hS.cell (p := ⟨B, 6, none⟩) hBl (by simp; omega)).trans y6
        go_simp
      try simp only [Act.put, List.setIfInBounds_toArray, List.set_cons_zero, List.set_cons_succ]
      refine wpAnyL_take (i := 1) (some 28) (v := .agg #[.int .i64 k, .int .i64 fr, .int .i64 tt, .int .i64 ep, .slice aC nC cC, .slice aN nN cN, .int .i64 nd, .int .i64 sl, .int .i64 nu, .int .i64 mrn, .int .i64 mre, .int .i64 mpn, .int .i64 mpe, .int .i64 moff, .slice ma mes.length mc]) rfl rfl (by kernel_rfl) (by kernel_rfl) (by kernel_rfl) (by kernel_rfl) (fun _ _ _ h => h) (by rfl) (fun W hS => ?_) HS0 ?_
      · have m0 := (hS.cell (p := ⟨B + 1, 0, none⟩) hMl (by simp)).trans x0
        have m1 := (hS.cell (p := ⟨B + 1, 1, none⟩) hMl (by simp)).trans x1
        have m2 := (hS.cell (p := ⟨B + 1, 2, none⟩) hMl (by simp)).trans x2
        have m3 := (hS.cell (p := ⟨B + 1, 3, none⟩) hMl (by simp)).trans x3
        have m4 := (hS.cell (p := ⟨B + 1, 4, none⟩) hMl (by simp)).trans x4
        have m5 := (hS.cell (p := ⟨B + 1, 5, none⟩) hMl (by simp)).trans x5
        have m6 := (hS.cell (p := ⟨B + 1, 6, none⟩) hMl (by simp)).trans x6
        have m7 := (hS.cell (p := ⟨B + 1, 7, none⟩) hMl (by simp)).trans x7
        have m8 := (hS.cell (p := ⟨B + 1, 8, none⟩) hMl (by simp)).trans x8
        have m9 := (hS.cell (p := ⟨B + 1, 9, none⟩) hMl (by simp)).trans x9
        have m10 := (hS.cell (p := ⟨B + 1, 10, none⟩) hMl (by simp)).trans x10
        have m11 := (hS.cell (p := ⟨B + 1, 11, none⟩) hMl (by simp)).trans x11
        have m12 := (hS.cell (p := ⟨B + 1, 12, none⟩) hMl (by simp)).trans x12
        have m13 := (hS.cell (p := ⟨B + 1, 13, none⟩) hMl (by simp)).trans x13
        have m14 := (hS.cell (p := ⟨B + 1, 14, none⟩) hMl (by simp)).trans x14
        go_simp
      try simp only [Act.put, List.setIfInBounds_toArray, List.set_cons_zero, List.set_cons_succ]
      refine wpAnyL_take (i := 3) (some 30) (v := .slice a ps.length cap) rfl rfl (by kernel_rfl) (by kernel_rfl) (by kernel_rfl) (by kernel_rfl) (fun _ _ _ h => h) (by rfl) (fun W hS => ?_) HS0 ?_
      · go_simp
      try simp only [Act.put, List.setIfInBounds_toArray, List.set_cons_zero, List.set_cons_succ]
      refine wpAnyL_take (i := 4) (some 31) (v := .pointer (some ⟨B + 1, 14, none⟩)) rfl rfl (by kernel_rfl) (by kernel_rfl) (by kernel_rfl) (by kernel_rfl) (fun _ _ _ h => h) (by rfl) (fun W hS => ?_) HS0 ?_
      · go_simp
      try simp only [Act.put, List.setIfInBounds_toArray, List.set_cons_zero, List.set_cons_succ]
      refine wpAnyL_take (i := 5) (some 32) (v := .slice ma mes.length mc) rfl rfl (by kernel_rfl) (by kernel_rfl) (by kernel_rfl) (by kernel_rfl) (fun _ _ _ h => h) (by rfl) (fun W hS => ?_) HS0 ?_
      · have m14 := (hS.cell (p := ⟨B + 1, 14, none⟩) hMl (by simp)).trans x14
        go_simp
      try simp only [Act.put, List.setIfInBounds_toArray, List.set_cons_zero, List.set_cons_succ]
      refine wpAnyL_one (j := 2) (by kernel_rfl) rfl (by rfl) (fun K hK => ?_)
      go_simp
      refine (HON.out _ HD0).mono ?_
      rintro e v1 ⟨g, rfl, hgo, hgf, hb1⟩
      have HD1 := HD0.trans (hb1.mono HD0.size)
      have HS1 : Keeps (fun k => k ≠ B + 1 + 1) wb v1 := Keeps.of_below HD1 fun k hk _ => hk
      have HGO := Lib.hid hgo
      have HGF : Hid (g.f = RF) := Lib.hid (by rw [hgf, HRF.out]; rfl)
      clear hgo hgf hb1
      refine hK _ _ (fun _ => HS1) ?_
      clear hK K
      try simp only [Act.put, List.setIfInBounds_toArray, List.set_cons_zero, List.set_cons_succ]
      refine wpAnyL_one (j := 6) (by kernel_rfl) rfl (by rfl) (fun K hK => ?_)
      go_simp
      refine (HAP.out _ HD1).mono ?_
      rintro e v2 ⟨a2, c2, qs, rfl, hq, hqn, hqm, hb2⟩
      have HD2 := HD1.trans (hb2.mono HD1.size)
      have HFF := Lib.hid (FIN.out v2 g HD2 (HGO.out.later hb2) HGF.out a2 c2 qs hq hqn (by rw [hqm, HRD.out]; rfl))
      clear hq hqn hqm hb2
      have HS2 : Keeps (fun k => k ≠ B + 1 + 1) wb v2 := Keeps.of_below HD2 fun k hk _ => hk
      have HZ2 := Lib.hid (HZ.out.next HD2)
      refine hK _ _ (fun _ => HS2) ?_
      clear hK K
      try simp only [Act.put, List.setIfInBounds_toArray, List.set_cons_zero, List.set_cons_succ]
      obtain ⟨grn, gre, goff, ga, ges, gc, gpn, gpe, gunt⟩ := g
      unfold Fe.v at *
      simp only at *
      refine wpAnyL_one (j := 7) (by kernel_rfl) rfl (by rfl) (fun K hK => ?_)
      obtain ⟨⟨q0, q1, q2, q3, q4, q5, q6⟩, z0, z1, z2, z3, z4, z5, z6⟩ := HZ2.out.at
      simp only [Fe.zero, List.length_nil] at q0 q1 q2 q3 q4 q5 q6
      go_simp
      have HS3 : Keeps (fun k => k ≠ B + 1 + 1) wb (stFe v2 (B + 1 + 1) ⟨grn, gre, goff, ga, ges, gc, gpn, gpe, gunt⟩) := stFe_keeps HS2 (.inr (by simp)) _
      clear q0 q1 q2 q3 q4 q5 q6 z0 z1 z2 z3 z4 z5 z6
      unfold stFe at HS3
      simp only [List.length_nil] at HS3
      refine hK _ _ (fun _ => HS3) ?_
      clear hK K
      try simp only [Act.put, List.setIfInBounds_toArray, List.set_cons_zero, List.set_cons_succ]
      refine wpAnyL_take (i := 8) (some 7) (v := .slice a2 qs.length c2) rfl rfl (by kernel_rfl) (by kernel_rfl) (by kernel_rfl) (by kernel_rfl) (fun _ _ _ h => h) (by rfl) (fun W hS => ?_) HS3 ?_
      · go_simp
      try simp only [Act.put, List.setIfInBounds_toArray, List.set_cons_zero, List.set_cons_succ]
      refine wpAnyL_take (i := 9) (some 8) (v := .bool true) rfl rfl (by kernel_rfl) (by kernel_rfl) (by kernel_rfl) (by kernel_rfl) (fun _ _ _ h => h) (by rfl) (fun W hS => ?_) HS3 ?_
      · go_simp
      try simp only [Act.put, List.setIfInBounds_toArray, List.set_cons_zero, List.set_cons_succ]
      refine wpAnyL_done (by kernel_rfl) ?_ _
      clear HS0 HS2 HS3 x0 x1 x2 x3 x4 x5 x6 x7 x8 x9 x10 x11 x12 x13 x14 y0 y1 y2 y3 y4 y5 y6
      go_wp2_with fail
      refine bodyPost_ret (fe_results3 rfl rfl (loadFe HFF.out.1)) rfl ?_
      exact HFF.out.2
    | false =>
      go_upto_region 3 with (fail)
      go_cut [34] (fun s W => s = .bool FU ∧ Hid (Below wb.heap.size wb W))
      case first =>
        by_cases hk : k = 6
        rotate_left
        · have hs : FU = false := by have := HFU.out; simpa [hk] using this.symm
          subst hs
          have hk2 : (k == 6) = false := by simpa using hk
          go_wp2_with fail
          go_meet
          case rel => exact ⟨rfl, Lib.hid (Below.refl _ _)⟩
        subst hk
        have hs : SU = FU := by have := HFU.out; simpa using this
        subst hs
        go_wp2_with fail
        refine (HSU.out _).mono ?_
        rintro e v1 ⟨rfl, hb1⟩
        have H1 := Lib.hid hb1
        clear hb1
        go_wp2_with fail
        go_meet
        case rel => exact ⟨rfl, H1⟩
      case rest =>
      obtain ⟨rfl, H4⟩ := hcut
      have HD0' := H4.out
      have HXc := HX.out.next H4.out
      have HMc := HM.out.next H4.out
      clear x0 x1 x2 x3 x4 x5 x6 x7 x8 x9 x10 x11 x12 x13 x14 y0 y1 y2 y3 y4 y5 y6 HS0 HD0 hBl hMl
      have hBl := HXc.lt
      have hMl := HMc.lt
      obtain ⟨x0, x9, x10, x11, x12, x13, x14⟩ := HMc.at
      obtain ⟨x1, x2, x3, x4, x5, x6, x7, x8⟩ := HMc.rest
      obtain ⟨⟨y0, y1, y2, y3, y4, y5, y6⟩, -⟩ := HXc.at
      simp only at x0 x1 x2 x3 x4 x5 x6 x7 x8 x9 x10 x11 x12 x13 x14 y0 y1 y2 y3 y4 y5 y6
      clear HXc HMc
      have HS0 : Keeps (fun k => k ≠ B + 1 + 1) wc wc.drew := (Keeps.refl _ _).drew
      have HD0 : Below wb.heap.size wb wc.drew := HD0'.drew
      have HDc : Below wc.heap.size wc wc.drew := (Below.refl _ _).drew
      cases FU with
      | true =>
      have hrb : RB = true := by rw [HRB.out]; rfl
      subst hrb
      go_wp2_with fail
      refine wp_region_L (S := fun W => Keeps (fun k => k ≠ B + 1 + 1) wc W) (f := 11) (by kernel_rfl) ?_
      refine wpAnyL_take (i := 0) (some 43) (v := .pointer (some ⟨B + 1, 9, none⟩)) rfl rfl (by kernel_rfl) (by kernel_rfl) (by kernel_rfl) (by kernel_rfl) (fun _ _ _ h => h) (by rfl) (fun W hS => ?_) HS0 ?_
      · go_simp
      try simp only [Act.put, List.setIfInBounds_toArray, List.set_cons_zero, List.set_cons_succ]
      refine wpAnyL_take (i := 1) (some 44) (v := .agg #[.int .i64 mrn, .int .i64 mre]) rfl rfl (by kernel_rfl) (by kernel_rfl) (by kernel_rfl) (by kernel_rfl) (fun _ _ _ h => h) (by rfl) (fun W hS => ?_) HS0 ?_
      · have m9 := (hS.cell (p := ⟨B + 1, 9, none⟩) hMl (by simp)).trans x9
        have m10 := (hS.cell (p := ⟨B + 1, 10, none⟩) hMl (by simp)).trans x10
        go_simp
      try simp only [Act.put, List.setIfInBounds_toArray, List.set_cons_zero, List.set_cons_succ]
      refine wpAnyL_take (i := 2) (some 45) (v := .pointer (some ⟨B + 1, 13, none⟩)) rfl rfl (by kernel_rfl) (by kernel_rfl) (by kernel_rfl) (by kernel_rfl) (fun _ _ _ h => h) (by rfl) (fun W hS => ?_) HS0 ?_
      · go_simp
      try simp only [Act.put, List.setIfInBounds_toArray, List.set_cons_zero, List.set_cons_succ]
      refine wpAnyL_take (i := 3) (some 46) (v := .int .i64 moff) rfl rfl (by kernel_rfl) (by kernel_rfl) (by kernel_rfl) (by kernel_rfl) (fun _ _ _ h => h) (by rfl) (fun W hS => ?_) HS0 ?_
      · have m13 := (hS.cell (p := ⟨B + 1, 13, none⟩) hMl (by simp)).trans x13
        go_simp
      try simp only [Act.put, List.setIfInBounds_toArray, List.set_cons_zero, List.set_cons_succ]
      refine wpAnyL_take (i := 4) (some 47) (v := .agg #[.int .i64 mrn, .int .i64 mre, .int .i64 moff, .slice none 0 0, .int .i64 0, .int .i64 0, .int .i64 0]) rfl rfl (by kernel_rfl) (by kernel_rfl) (by kernel_rfl) (by kernel_rfl) (fun _ _ _ h => h) (by rfl) (fun W hS => ?_) HS0 ?_
      · go_simp
      try simp only [Act.put, List.setIfInBounds_toArray, List.set_cons_zero, List.set_cons_succ]
      refine wpAnyL_take (i := 5) (some 48) (v := .pointer (some ⟨B + 1, 14, none⟩)) rfl rfl (by kernel_rfl) (by kernel_rfl) (by kernel_rfl) (by kernel_rfl) (fun _ _ _ h => h) (by rfl) (fun W hS => ?_) HS0 ?_
      · go_simp
      try simp only [Act.put, List.setIfInBounds_toArray, List.set_cons_zero, List.set_cons_succ]
      refine wpAnyL_take (i := 6) (some 49) (v := .slice ma mes.length mc) rfl rfl (by kernel_rfl) (by kernel_rfl) (by kernel_rfl) (by kernel_rfl) (fun _ _ _ h => h) (by rfl) (fun W hS => ?_) HS0 ?_
      · have m14 := (hS.cell (p := ⟨B + 1, 14, none⟩) hMl (by simp)).trans x14
        go_simp
      try simp only [Act.put, List.setIfInBounds_toArray, List.set_cons_zero, List.set_cons_succ]
      refine wpAnyL_one (j := 7) (by kernel_rfl) rfl (by rfl) (fun K hK => ?_)
      go_simp
      refine (HA0.out _ HD0).mono ?_
      rintro e v2 ⟨a2, c2, qs, rfl, hq, hqn, hqm, hb2⟩
      have HD2 := HD0.trans (hb2.mono HD0.size)
      have HFF := Lib.hid (FIN.out v2 ⟨mrn, mre, moff, none, [], 0, 0, 0, 0⟩ HD2 ⟨efs_nil _, fun _ => rfl⟩ (by rw [HRF.out]; rfl) a2 c2 qs hq hqn (by rw [hqm, HRD.out]; rfl))
      have hb2c : Below wc.heap.size wc v2 := HDc.trans (hb2.mono HDc.size)
      clear hq hqn hqm hb2
      have HS2 : Keeps (fun k => k ≠ B + 1 + 1) wc v2 := Keeps.of_below hb2c fun k hk _ => hk
      have HZ2 := Lib.hid (HZ.out.next HD2)
      refine hK _ _ (fun _ => HS2) ?_
      clear hK K
      try simp only [Act.put, List.setIfInBounds_toArray, List.set_cons_zero, List.set_cons_succ]
      unfold Fe.v at *
      simp only [List.length_nil] at *
      refine wpAnyL_one (j := 8) (by kernel_rfl) rfl (by rfl) (fun K hK => ?_)
      obtain ⟨⟨q0, q1, q2, q3, q4, q5, q6⟩, z0, z1, z2, z3, z4, z5, z6⟩ := HZ2.out.at
      simp only [Fe.zero, List.length_nil] at q0 q1 q2 q3 q4 q5 q6
      go_simp
      have HS3 : Keeps (fun k => k ≠ B + 1 + 1) wc (stFe v2 (B + 1 + 1) ⟨mrn, mre, moff, none, [], 0, 0, 0, 0⟩) := stFe_keeps HS2 (.inr (by simp)) _
      clear q0 q1 q2 q3 q4 q5 q6 z0 z1 z2 z3 z4 z5 z6
      unfold stFe at HS3
      simp only [List.length_nil] at HS3
      refine hK _ _ (fun _ => HS3) ?_
      clear hK K
      try simp only [Act.put, List.setIfInBounds_toArray, List.set_cons_zero, List.set_cons_succ]
      refine wpAnyL_take (i := 9) (some 7) (v := .slice a2 qs.length c2) rfl rfl (by kernel_rfl) (by kernel_rfl) (by kernel_rfl) (by kernel_rfl) (fun _ _ _ h => h) (by rfl) (fun W hS => ?_) HS3 ?_
      · go_simp
      try simp only [Act.put, List.setIfInBounds_toArray, List.set_cons_zero, List.set_cons_succ]
      refine wpAnyL_take (i := 10) (some 8) (v := .bool true) rfl rfl (by kernel_rfl) (by kernel_rfl) (by kernel_rfl) (by kernel_rfl) (fun _ _ _ h => h) (by rfl) (fun W hS => ?_) HS3 ?_
      · go_simp
      try simp only [Act.put, List.setIfInBounds_toArray, List.set_cons_zero, List.set_cons_succ]
      refine wpAnyL_done (by kernel_rfl) ?_ _
      clear HS0 HS2 HS3 x0 x1 x2 x3 x4 x5 x6 x7 x8 x9 x10 x11 x12 x13 x14 y0 y1 y2 y3 y4 y5 y6
      go_wp2_with fail
      refine bodyPost_ret (fe_results3 rfl rfl (loadFe HFF.out.1)) rfl ?_
      exact HFF.out.2
      | false =>
      have hrb : RB = false := by rw [HRB.out]; rfl
      subst hrb
      go_wp2_with fail
      refine (HAD.out _ HD0').mono ?_
      rintro e v1 ⟨g, rfl, hgo, hgf, hb1⟩
      have HD1 := Lib.hid (HD0'.trans (hb1.mono HD0'.size))
      have HGO := Lib.hid hgo
      have HGF : Hid (g.f = RF) := Lib.hid (by rw [hgf, HRF.out]; exact HNIL.out)
      clear hgo hgf hb1 x0 x1 x2 x3 x4 x5 x6 x7 x8 x9 x10 x11 x12 x13 x14 y0 y1 y2 y3 y4 y5 y6 HS0 HD0
      go_wp2_with fail
      refine (HAN.out _ HD1.out).mono ?_
      rintro e v2 ⟨a2, c2, qs, rfl, hq, hqn, hqm, hb2⟩
      have HD2 := HD1.out.trans (hb2.mono HD1.out.size)
      have HFF := Lib.hid (FIN.out v2 g HD2 (HGO.out.later hb2) HGF.out a2 c2 qs hq hqn (by rw [hqm, HRD.out]; rfl))
      obtain ⟨⟨q0, q1, q2, q3, q4, q5, q6⟩, z0, z1, z2, z3, z4, z5, z6⟩ := (HZ.out.next HD2).at
      simp only [Fe.zero, List.length_nil] at q0 q1 q2 q3 q4 q5 q6
      clear hq hqn hqm hb2 HD2
      obtain ⟨grn, gre, goff, ga, ges, gc, gpn, gpe, gunt⟩ := g
      unfold Fe.v at *
      simp only at *
      go_wp2_with fail
      refine bodyPost_ret (fe_results3 rfl rfl (loadFe HFF.out.1)) rfl ?_
      exact HFF.out.2
end Go.Proofs.Ytihleddhjmejoaa
