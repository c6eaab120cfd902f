/- The contracts of the program's supersedes and onward (15.3). -/
import Derived.Test.YtihleddhjmejoaaMD41
namespace Go.Proofs.Ytihleddhjmejoaa
open Go.RowKit Go.Shelf
attribute [local go_sem] Oper.semAt_some
set_option linter.unusedVariables false
set_option linter.unusedSimpArgs false

set_option maxRecDepth 100000 in
set_option maxHeartbeats 4000000 in
theorem sup_any (m : Ms) (f : Fe) (w : World) :
    Calls Try.prog 32 #[m.v, f.v] w fun e W => e = .returned (.bool (Fd.sup f.f m.m)) ∧ Below w.heap.size w W := by
  obtain ⟨w2, hw2⟩ : ∃ w2, (w.alloc (.cells #[.int .i64 m.k, .int .i64 m.fr, .int .i64 m.tt, .int .i64 m.ep, .slice m.aC m.nC m.cC, .slice m.aN m.nN m.cN, .int .i64 m.nd, .int .i64 m.sl, .int .i64 m.nu, .int .i64 m.rn, .int .i64 m.re, .int .i64 m.pn, .int .i64 m.pe, .int .i64 m.off, .slice m.a m.es.length m.c] 31)).alloc (.cells #[.int .i64 f.rn, .int .i64 f.re, .int .i64 f.off, .slice f.a f.es.length f.c, .int .i64 f.pn, .int .i64 f.pe, .int .i64 f.unt] 26) = w2 := ⟨_, rfl⟩
  have hb2 : Below w.heap.size w w2 := by rw [← hw2]; exact ((Below.refl _ w).alloc (Nat.le_refl _) _).alloc (by simp) _
  have hx2 : MsBox w2 w.heap.size m := by
    rw [← hw2]
    exact (Below.heap_alloc _ _ _ (by simp)).trans (MsBox.new w m)
  have hy2 : FeBox w2 (w.heap.size + 1) f := by
    rw [← hw2]
    have := FeBox.new (w.alloc (.cells #[.int .i64 m.k, .int .i64 m.fr, .int .i64 m.tt, .int .i64 m.ep, .slice m.aC m.nC m.cC, .slice m.aN m.nN m.cN, .int .i64 m.nd, .int .i64 m.sl, .int .i64 m.nu, .int .i64 m.rn, .int .i64 m.re, .int .i64 m.pn, .int .i64 m.pe, .int .i64 m.off, .slice m.a m.es.length m.c] 31)) f
    rwa [World.size_alloc] at this
  have HW := Lib.hid hw2
  have HX := Lib.hid hx2
  have HY := Lib.hid hy2
  have HB := Lib.hid hb2
  obtain ⟨R, hR⟩ : ∃ R, Fd.sup f.f m.m = R := ⟨_, rfl⟩
  obtain ⟨b1, hb1⟩ : ∃ b, (decide (m.rn = f.rn) && decide (m.re = f.re)) = b := ⟨_, rfl⟩
  have HR : Hid ((!decide (m.rn = f.rn) || decide (f.re < m.re) || (b1 && decide (f.off < m.off))) = R) := Lib.hid (by rw [← hR, ← hb1]; rfl)
  have HB1 := Lib.hid hb1
  have HE1 : Hid (∀ w, (binOp .eql 23 (.agg #[.int .i64 m.rn, .int .i64 m.re]) (.agg #[.int .i64 f.rn, .int .i64 f.re])).run Try.prog w = .ok (.bool b1) w) := Lib.hid fun w => by rw [rid_eql, hb1]
  rw [hR]
  clear hw2 hx2 hy2 hb2 hR hb1
  obtain ⟨k, fr, tt, ep, aC, nC, cC, aN, nN, cN, nd, sl, nu, mrn, mre, mpn, mpe, moff, ma, mes, mc⟩ := m
  obtain ⟨rn, re, off, a, es, c, pn, pe, unt⟩ := f
  unfold Fe.v Ms.v Ms.cells
  simp only at HR HE1 HW HB1 ⊢
  obtain ⟨B, hB⟩ : ∃ B, B = w.heap.size := ⟨_, rfl⟩
  rw [← hB] at HX HY
  go_enter Try.func32, Try.ntmps32
  go_upto_region 1 with (fail)
  rw [HW.out, ← hB]
  clear hB
  obtain ⟨x0, x9, x10, x11, x12, x13, x14⟩ := HX.out.at
  obtain ⟨⟨y0, y1, y2, y3, y4, y5, y6⟩, -⟩ := HY.out.at
  simp only at x0 x9 x10 x11 x12 x13 x14 y0 y1 y2 y3 y4 y5 y6
  have e1 := HE1.out
  by_cases h1 : mrn = rn
  rotate_left
  · have hr : R = true := by have := HR.out; simpa [h1] using this.symm
    subst hr
    have h1' : (mrn == rn) = false := by simpa using h1
    have h1'' : (mrn != rn) = true := by simpa using h1
    go_wp2_with fail
    go_ret
    exact ⟨rfl, HB.out⟩
  subst h1
  by_cases h2 : re < mre
  · have hr : R = true := by have := HR.out; simpa [h2] using this.symm
    subst hr
    go_wp2_with fail
    go_ret
    exact ⟨rfl, HB.out⟩
  cases b1 with
  | false =>
    have hr : R = false := by have := HR.out; simpa [h2] using this.symm
    subst hr
    go_wp2_with fail
    go_ret
    exact ⟨rfl, HB.out⟩
  | true =>
    by_cases h3 : off < moff
    · have hr : R = true := by have := HR.out; simpa [h2, h3] using this.symm
      subst hr
      go_wp2_with fail
      go_ret
      exact ⟨rfl, HB.out⟩
    · have hr : R = false := by have := HR.out; simpa [h2, h3] using this.symm
      subst hr
      go_wp2_with fail
      go_ret
      exact ⟨rfl, HB.out⟩

theorem FeBox.set0 {w : World} {B : Nat} {f : Fe} (h : FeBox w B f) (x y : Int) : FeBox ((w.setCell ⟨B, 0, none⟩ (.int .i64 x)).setCell ⟨B, 1, none⟩ (.int .i64 y)) B { f with rn := x, re := y } := by
  unfold FeBox at h ⊢
  simp [World.setCell, Array.getElem?_modify, h]
theorem FeBox.set4 {w : World} {B : Nat} {f : Fe} (h : FeBox w B f) (x y : Int) : FeBox ((w.setCell ⟨B, 4, none⟩ (.int .i64 x)).setCell ⟨B, 5, none⟩ (.int .i64 y)) B { f with pn := x, pe := y } := by
  unfold FeBox at h ⊢
  simp [World.setCell, Array.getElem?_modify, h]
theorem FeBox.set6 {w : World} {B : Nat} {f : Fe} (h : FeBox w B f) (x : Int) : FeBox (w.setCell ⟨B, 6, none⟩ (.int .i64 x)) B { f with unt := x } := by
  unfold FeBox at h ⊢
  simp [World.setCell, Array.getElem?_modify, h]
theorem FeBox.drewB {w : World} {B : Nat} {f : Fe} (h : FeBox w B f) : FeBox w.drew B f := h
theorem set2_keeps {w A : World} {B i j : Nat} {S : Nat → Prop} (h : Keeps S w A) (hB : w.heap.size ≤ B ∨ ¬ S B) (x y : Value) : Keeps S w ((A.setCell ⟨B, i, none⟩ x).setCell ⟨B, j, none⟩ y) := (h.setCell (p := ⟨B, i, none⟩) hB _).setCell (p := ⟨B, j, none⟩) hB _

set_option maxRecDepth 100000 in
set_option maxHeartbeats 4000000 in
theorem onward_any (f : Fe) (m : Ms) (w : World) (hok : f.Ok w) (hmo : m.Ok w) (h0 : 0 ≤ f.off) (h1 : f.off ≤ 1152921504606846976) (hsm : ∀ e ∈ f.es, e.e.Sm) (hms : ∀ e ∈ m.es, e.e.Sm) (hn : f.es.length ≤ 400) (hm : m.es.length ≤ 400) :
    Calls Try.prog 30 #[f.v, m.v] w (FeOut (Fd.onward f.f m.m) w) := by
  obtain ⟨w3, hw3⟩ : ∃ w3, ((w.alloc (.cells #[.int .i64 f.rn, .int .i64 f.re, .int .i64 f.off, .slice f.a f.es.length f.c, .int .i64 f.pn, .int .i64 f.pe, .int .i64 f.unt] 26)).alloc (.cells #[.int .i64 m.k, .int .i64 m.fr, .int .i64 m.tt, .int .i64 m.ep, .slice m.aC m.nC m.cC, .slice m.aN m.nN m.cN, .int .i64 m.nd, .int .i64 m.sl, .int .i64 m.nu, .int .i64 m.rn, .int .i64 m.re, .int .i64 m.pn, .int .i64 m.pe, .int .i64 m.off, .slice m.a m.es.length m.c] 31)).alloc (.cells #[.int .i64 0, .int .i64 0, .int .i64 0, .slice none 0 0, .int .i64 0, .int .i64 0, .int .i64 0] 26) = w3 := ⟨_, rfl⟩
  have hb3 : Below w.heap.size w w3 := by rw [← hw3]; exact (((Below.refl _ w).alloc (Nat.le_refl _) _).alloc (by simp) _).alloc (by first | (simp; done) | (simp; omega)) _
  have hx3 : FeBox w3 w.heap.size f := by
    rw [← hw3]
    exact (Below.heap_alloc _ _ _ (by first | (simp; done) | (simp; omega))).trans ((Below.heap_alloc _ _ _ (by simp)).trans (FeBox.new w f))
  have hm3 : MsBox w3 (w.heap.size + 1) m := by
    rw [← hw3]
    refine (Below.heap_alloc _ _ _ (by simp)).trans ?_
    have := MsBox.new (w.alloc f.o) m
    rwa [World.size_alloc] at this
  have hz3 : FeBox w3 (w.heap.size + 1 + 1) Fe.zero := by
    rw [← hw3]
    have := Fe.zero_new ((w.alloc f.o).alloc (.cells #[.int .i64 m.k, .int .i64 m.fr, .int .i64 m.tt, .int .i64 m.ep, .slice m.aC m.nC m.cC, .slice m.aN m.nN m.cN, .int .i64 m.nd, .int .i64 m.sl, .int .i64 m.nu, .int .i64 m.rn, .int .i64 m.re, .int .i64 m.pn, .int .i64 m.pe, .int .i64 m.off, .slice m.a m.es.length m.c] 31))
    rwa [World.size_alloc, World.size_alloc] at this
  have HW := Lib.hid hw3
  have HX := Lib.hid hx3
  have HM := Lib.hid hm3
  have HZ := Lib.hid hz3
  have HB := Lib.hid hb3
  have HAD := Lib.hid (add_any f m.a m.c m.es w3 (hok.later hb3) (hmo.later hb3).1 hmo.2 h0 h1 hsm hms hn hm)
  obtain ⟨b1, hb1⟩ : ∃ b, (!(decide (m.rn = f.rn) && decide (m.re = f.re))) = b := ⟨_, rfl⟩
  have HE1 : Hid (∀ w, (binOp .neq 23 (.agg #[.int .i64 m.rn, .int .i64 m.re]) (.agg #[.int .i64 f.rn, .int .i64 f.re])).run Try.prog w = .ok (.bool b1) w) := Lib.hid fun w => by rw [rid_neq, hb1]
  obtain ⟨R, hR⟩ : ∃ R, Fd.onward f.f m.m = R := ⟨_, rfl⟩
  have HR : Hid (R = if b1 = true then { Fd.add f.f (m.es.map Le.e) with rn := m.rn, re := m.re, pn := f.rn, pe := f.re, unt := f.off } else Fd.add f.f (m.es.map Le.e)) := Lib.hid (by rw [← hR, ← hb1]; rfl)
  rw [hR]
  clear hw3 hx3 hm3 hz3 hb3 hok hmo hsm hms hb1 hR
  obtain ⟨k, fr, tt, ep, aC, nC, cC, aN, nN, cN, nd, sl, nu, mrn, mre, mpn, mpe, moff, ma, mes, mc⟩ := m
  obtain ⟨rn, re, off, a, es, c, pn, pe, unt⟩ := f
  unfold Fe.v Ms.v Ms.cells at *
  simp only at HR HE1 HW HAD ⊢
  obtain ⟨B, hB⟩ : ∃ B, B = w.heap.size := ⟨_, rfl⟩
  rw [← hB] at HX HM HZ
  have HBB := Lib.hid hB
  go_enter Try.func30, Try.ntmps30
  go_upto_region 1 with (fail)
  rw [HW.out, ← hB]
  clear hB
  obtain ⟨x0, x9, x10, x11, x12, x13, x14⟩ := HM.out.at
  obtain ⟨⟨y0, y1, y2, y3, y4, y5, y6⟩, -⟩ := HX.out.at
  simp only at x0 x9 x10 x11 x12 x13 x14 y0 y1 y2 y3 y4 y5 y6
  go_wp2_with fail
  refine HAD.out.mono ?_
  rintro e w4 ⟨g, rfl, hgo, hgf, hb4⟩
  obtain ⟨w5, hw5⟩ : ∃ w5, w4.alloc (.cells #[.int .i64 g.rn, .int .i64 g.re, .int .i64 g.off, .slice g.a g.es.length g.c, .int .i64 g.pn, .int .i64 g.pe, .int .i64 g.unt] 26) = w5 := ⟨_, rfl⟩
  have hb5 : Below w4.heap.size w4 w5 := by rw [← hw5]; exact (Below.refl _ w4).alloc (Nat.le_refl _) _
  have hx5 : FeBox w5 w4.heap.size g := by rw [← hw5]; exact FeBox.new w4 g
  have hz4 := hb4.size
  have h45 := hb4.trans (hb5.mono hb4.size)
  have HX5 := Lib.hid hx5
  have HF5 := Lib.hid (HX.out.next h45)
  have HM5 := Lib.hid (HM.out.next h45)
  have HZ5 := Lib.hid (HZ.out.next h45)
  have HB5 := Lib.hid (HB.out.trans (h45.mono HB.out.size))
  have HGO := Lib.hid (hgo.later hb5)
  have HGF := Lib.hid hgf
  have HW5 := Lib.hid hw5
  have hBl := HX.out.lt
  have hMl := HM.out.lt
  have hZl := HZ.out.lt
  clear hgo hgf hb4 hw5 hb5 hx5 h45 x0 x9 x10 x11 x12 x13 x14 y0 y1 y2 y3 y4 y5 y6
  obtain ⟨grn, gre, goff, ga, ges, gc, gpn, gpe, gunt⟩ := g
  unfold Fe.v
  simp only at HW5 ⊢
  go_upto_region 2 with (fail)
  rw [HW5.out]
  obtain ⟨x0, x9, x10, x11, x12, x13, x14⟩ := HM5.out.at
  obtain ⟨⟨y0, y1, y2, y3, y4, y5, y6⟩, -⟩ := HF5.out.at
  simp only at x0 x9 x10 x11 x12 x13 x14 y0 y1 y2 y3 y4 y5 y6
  have e1 := HE1.out
  obtain ⟨C, hC⟩ : ∃ C, C = w4.heap.size := ⟨_, rfl⟩
  rw [← hC] at HX5 ⊢
  have hCB : B + 1 + 1 < C := by omega
  have hwB : w.heap.size ≤ C := by have := HBB.out; omega
  clear hC
  have fin : ∀ (W : World) (g2 : Fe), Keeps (fun k => k ≠ C) w5 W → KeepsT w5 W → g2.a = ga → g2.es = ges → g2.c = gc → g2.f = R → FeBox W C g2 → FeBox W (B + 1 + 1) Fe.zero ∧ FeOut R w (.returned g2.v) (stFe W (B + 1 + 1) g2) := fun W g2 hk hT h1 h2 h3 h4 hg => by
    have hz := HZ5.out.keep hk (by omega)
    have hzl := HBB.out
    refine ⟨hz, g2, rfl, ?_, h4, stFe_below (HB5.out.trans (hk.below HB5.out.size fun k hk => by omega)) (by omega) _⟩
    refine Fe.Ok.keepT ?_ (stFe_T hz g2)
    refine Fe.Ok.keepT ?_ hT
    exact ⟨by rw [h1, h2, h3]; exact HGO.out.1, by rw [h1, h3]; exact HGO.out.2⟩
  have FIN := Lib.hid fin
  clear fin
  cases b1 with
  | false =>
    have hf := FIN.out w5 ⟨grn, gre, goff, ga, ges, gc, gpn, gpe, gunt⟩ (Keeps.refl _ _) (KeepsT.refl _) rfl rfl rfl (by rw [HR.out, HGF.out]; rfl) HX5.out
    have HF := Lib.hid hf
    obtain ⟨⟨q0, q1, q2, q3, q4, q5, q6⟩, -⟩ := hf.1.at
    obtain ⟨⟨g0, g1, g2, g3, g4, g5, g6⟩, -⟩ := HX5.out.at
    obtain ⟨-, z0, z1, z2, z3, z4, z5, z6⟩ := hf.1.at
    simp only [Fe.zero, List.length_nil] at q0 q1 q2 q3 q4 q5 q6 g0 g1 g2 g3 g4 g5 g6
    clear hf x0 x11 x12 x13 x14 y2 y3 y4 y5 y6
    go_wp2_with fail
    exact bodyPost_ret (results_cell rfl rfl (loadFe (HF.out.1.store ⟨grn, gre, goff, ga, ges, gc, gpn, gpe, gunt⟩))) rfl HF.out.2
  | true =>
    have HS0 : Keeps (fun k => k ≠ C) w5 w5.drew := (Keeps.refl _ _).drew
    have hBl5 := HF5.out.lt
    have hMl5 := HM5.out.lt
    have HXD := Lib.hid HX5.out
    go_wp2_with fail
    refine wp_region_L (S := fun W => Keeps (fun k => k ≠ C) w5 W) (f := 12) (by kernel_rfl) ?_
    refine wpAnyL_take (i := 0) (some 15) (v := .pointer (some ⟨B + 1, 9, none⟩)) rfl rfl (by kernel_rfl) (by kernel_rfl) (by kernel_rfl) (by kernel_rfl) (fun _ _ _ h => h) (by rfl) (fun W hS => ?_) HS0 ?_
    · go_simp
    try simp only [Act.put, List.setIfInBounds_toArray, List.set_cons_zero, List.set_cons_succ]
    refine wpAnyL_take (i := 1) (some 16) (v := .agg #[.int .i64 mrn, .int .i64 mre]) rfl rfl (by kernel_rfl) (by kernel_rfl) (by kernel_rfl) (by kernel_rfl) (fun _ _ _ h => h) (by rfl) (fun W hS => ?_) HS0 ?_
    · have m9 := (hS.cell (p := ⟨B + 1, 9, none⟩) hMl5 (by show B + 1 ≠ C; omega)).trans x9
      have m10 := (hS.cell (p := ⟨B + 1, 10, none⟩) hMl5 (by show B + 1 ≠ C; omega)).trans x10
      go_simp
    try simp only [Act.put, List.setIfInBounds_toArray, List.set_cons_zero, List.set_cons_succ]
    refine wpAnyL_take (i := 2) (some 17) (v := .pointer (some ⟨B, 0, none⟩)) rfl rfl (by kernel_rfl) (by kernel_rfl) (by kernel_rfl) (by kernel_rfl) (fun _ _ _ h => h) (by rfl) (fun W hS => ?_) HS0 ?_
    · go_simp
    try simp only [Act.put, List.setIfInBounds_toArray, List.set_cons_zero, List.set_cons_succ]
    refine wpAnyL_take (i := 3) (some 18) (v := .agg #[.int .i64 rn, .int .i64 re]) rfl rfl (by kernel_rfl) (by kernel_rfl) (by kernel_rfl) (by kernel_rfl) (fun _ _ _ h => h) (by rfl) (fun W hS => ?_) HS0 ?_
    · have m0 := (hS.cell (p := ⟨B, 0, none⟩) hBl5 (by show B ≠ C; omega)).trans y0
      have m1 := (hS.cell (p := ⟨B, 1, none⟩) hBl5 (by show B ≠ C; omega)).trans y1
      go_simp
    try simp only [Act.put, List.setIfInBounds_toArray, List.set_cons_zero, List.set_cons_succ]
    refine wpAnyL_take (i := 4) (some 19) (v := .pointer (some ⟨B, 2, none⟩)) rfl rfl (by kernel_rfl) (by kernel_rfl) (by kernel_rfl) (by kernel_rfl) (fun _ _ _ h => h) (by rfl) (fun W hS => ?_) HS0 ?_
    · go_simp
    try simp only [Act.put, List.setIfInBounds_toArray, List.set_cons_zero, List.set_cons_succ]
    refine wpAnyL_take (i := 5) (some 20) (v := .int .i64 off) rfl rfl (by kernel_rfl) (by kernel_rfl) (by kernel_rfl) (by kernel_rfl) (fun _ _ _ h => h) (by rfl) (fun W hS => ?_) HS0 ?_
    · have m2 := (hS.cell (p := ⟨B, 2, none⟩) hBl5 (by show B ≠ C; omega)).trans y2
      go_simp
    try simp only [Act.put, List.setIfInBounds_toArray, List.set_cons_zero, List.set_cons_succ]
    refine wpAnyL_take (i := 6) (some 21) (v := .pointer (some ⟨C, 0, none⟩)) rfl rfl (by kernel_rfl) (by kernel_rfl) (by kernel_rfl) (by kernel_rfl) (fun _ _ _ h => h) (by rfl) (fun W hS => ?_) HS0 ?_
    · go_simp
    try simp only [Act.put, List.setIfInBounds_toArray, List.set_cons_zero, List.set_cons_succ]
    refine wpAnyL_one (j := 7) (by kernel_rfl) rfl (by rfl) (fun K hK => ?_)
    obtain ⟨⟨q0, q1, q2, q3, q4, q5, q6⟩, z0, z1, z2, z3, z4, z5, z6⟩ := HX5.out.at
    obtain ⟨⟨d0, d1, d2, d3, d4, d5, d6⟩, f0, f1, f2, f3, f4, f5, f6⟩ := HX5.out.at
    simp only at q0 q1 q2 q3 q4 q5 q6 d0 d1 d2 d3 d4 d5 d6
    go_simp
    have hx1 := HX5.out.drewB.set0 mrn mre
    have HS1 := set2_keeps (B := C) (i := 0) (j := 1) HS0 (.inr (by simp)) (.int .i64 mrn) (.int .i64 mre)
    clear q0 q1 q2 q3 q4 q5 q6 z0 z1 z2 z3 z4 z5 z6 d0 d1 d2 d3 d4 d5 d6 f0 f1 f2 f3 f4 f5 f6
    refine hK _ _ (fun _ => HS1) ?_
    clear hK K
    try simp only [Act.put, List.setIfInBounds_toArray, List.set_cons_zero, List.set_cons_succ]
    refine wpAnyL_take (i := 8) (some 22) (v := .pointer (some ⟨C, 4, none⟩)) rfl rfl (by kernel_rfl) (by kernel_rfl) (by kernel_rfl) (by kernel_rfl) (fun _ _ _ h => h) (by rfl) (fun W hS => ?_) HS1 ?_
    · go_simp
    try simp only [Act.put, List.setIfInBounds_toArray, List.set_cons_zero, List.set_cons_succ]
    refine wpAnyL_one (j := 9) (by kernel_rfl) rfl (by rfl) (fun K hK => ?_)
    obtain ⟨⟨q0, q1, q2, q3, q4, q5, q6⟩, z0, z1, z2, z3, z4, z5, z6⟩ := hx1.at
    obtain ⟨⟨d0, d1, d2, d3, d4, d5, d6⟩, f0, f1, f2, f3, f4, f5, f6⟩ := HX5.out.at
    simp only at q0 q1 q2 q3 q4 q5 q6 d0 d1 d2 d3 d4 d5 d6
    go_simp
    have hx2 := hx1.set4 rn re
    have HS2 := set2_keeps (B := C) (i := 4) (j := 5) HS1 (.inr (by simp)) (.int .i64 rn) (.int .i64 re)
    clear q0 q1 q2 q3 q4 q5 q6 z0 z1 z2 z3 z4 z5 z6 d0 d1 d2 d3 d4 d5 d6 f0 f1 f2 f3 f4 f5 f6
    refine hK _ _ (fun _ => HS2) ?_
    clear hK K
    try simp only [Act.put, List.setIfInBounds_toArray, List.set_cons_zero, List.set_cons_succ]
    refine wpAnyL_take (i := 10) (some 23) (v := .pointer (some ⟨C, 6, none⟩)) rfl rfl (by kernel_rfl) (by kernel_rfl) (by kernel_rfl) (by kernel_rfl) (fun _ _ _ h => h) (by rfl) (fun W hS => ?_) HS2 ?_
    · go_simp
    try simp only [Act.put, List.setIfInBounds_toArray, List.set_cons_zero, List.set_cons_succ]
    refine wpAnyL_one (j := 11) (by kernel_rfl) rfl (by rfl) (fun K hK => ?_)
    obtain ⟨⟨q0, q1, q2, q3, q4, q5, q6⟩, z0, z1, z2, z3, z4, z5, z6⟩ := hx2.at
    obtain ⟨⟨d0, d1, d2, d3, d4, d5, d6⟩, f0, f1, f2, f3, f4, f5, f6⟩ := HX5.out.at
    simp only at q0 q1 q2 q3 q4 q5 q6 d0 d1 d2 d3 d4 d5 d6
    go_simp
    have hx3 := hx2.set6 off
    have HS3 := HS2.setCell (p := ⟨C, 6, none⟩) (.inr (by simp)) (.int .i64 off)
    clear q0 q1 q2 q3 q4 q5 q6 z0 z1 z2 z3 z4 z5 z6 d0 d1 d2 d3 d4 d5 d6 f0 f1 f2 f3 f4 f5 f6
    refine hK _ _ (fun _ => HS3) ?_
    clear hK K
    try simp only [Act.put, List.setIfInBounds_toArray, List.set_cons_zero, List.set_cons_succ]
    refine wpAnyL_done (by kernel_rfl) ?_ _
    simp only at hx3
    replace hx3 : FeBox (((((w5.setCell ⟨C, 0, none⟩ (.int .i64 mrn)).setCell ⟨C, 1, none⟩ (.int .i64 mre)).setCell ⟨C, 4, none⟩ (.int .i64 rn)).setCell ⟨C, 5, none⟩ (.int .i64 re)).setCell ⟨C, 6, none⟩ (.int .i64 off)).drew C ⟨mrn, mre, goff, ga, ges, gc, rn, re, off⟩ := hx3
    replace HS3 : Keeps (fun k => k ≠ C) w5 (((((w5.setCell ⟨C, 0, none⟩ (.int .i64 mrn)).setCell ⟨C, 1, none⟩ (.int .i64 mre)).setCell ⟨C, 4, none⟩ (.int .i64 rn)).setCell ⟨C, 5, none⟩ (.int .i64 re)).setCell ⟨C, 6, none⟩ (.int .i64 off)).drew := HS3
    clear hx1 hx2 HS0 HS1 HS2
    generalize (((((w5.setCell ⟨C, 0, none⟩ (.int .i64 mrn)).setCell ⟨C, 1, none⟩ (.int .i64 mre)).setCell ⟨C, 4, none⟩ (.int .i64 rn)).setCell ⟨C, 5, none⟩ (.int .i64 re)).setCell ⟨C, 6, none⟩ (.int .i64 off)).drew = W9 at *
    have hf := FIN.out W9 ⟨mrn, mre, goff, ga, ges, gc, rn, re, off⟩ HS3 (KeepsT.of_keeps HS3 HX5.out.noTx) rfl rfl rfl (by rw [HR.out, ← HGF.out]; rfl) hx3
    have HF := Lib.hid hf
    obtain ⟨⟨q0, q1, q2, q3, q4, q5, q6⟩, -⟩ := hf.1.at
    obtain ⟨⟨g0, g1, g2, g3, g4, g5, g6⟩, -⟩ := hx3.at
    obtain ⟨-, z0, z1, z2, z3, z4, z5, z6⟩ := hf.1.at
    simp only [Fe.zero, List.length_nil] at q0 q1 q2 q3 q4 q5 q6 g0 g1 g2 g3 g4 g5 g6
    clear hf hx3 HS3 x0 x9 x10 x11 x12 x13 x14 y0 y1 y2 y3 y4 y5 y6
    go_wp2_with fail
    exact bodyPost_ret (results_cell rfl rfl (loadFe (HF.out.1.store ⟨mrn, mre, goff, ga, ges, gc, rn, re, off⟩))) rfl HF.out.2
end Go.Proofs.Ytihleddhjmejoaa
