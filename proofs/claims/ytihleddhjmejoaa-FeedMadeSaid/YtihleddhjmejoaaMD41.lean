/- The contract of the program's Answer (15.2). -/
import Derived.Test.YtihleddhjmejoaaMD40
import Derived.Test.YtihleddhjmejoaaMD36
import Derived.Test.YtihleddhjmejoaaMD06
namespace Go.Proofs.Ytihleddhjmejoaa
open Go.RowKit Go.Shelf
attribute [local go_sem] Oper.semAt_some
set_option linter.unusedVariables false
set_option linter.unusedSimpArgs false

theorem rid_eql (x y x2 y2 : Int) (w : World) :
    (binOp .eql 23 (.agg #[.int .i64 x, .int .i64 y]) (.agg #[.int .i64 x2, .int .i64 y2])).run Try.prog w = .ok (.bool (decide (x = x2) && decide (y = y2))) w := by
  have u3 := Try.underlying3
  have a3 := Try.isAgg3
  have z3 := Try.sizeOf3
  have hS : Try.prog.underlying 23 = some (.struct (Try.prog.fieldsOf 23)) := by kernel_rfl
  have hp : Try.prog.stoodInHeld 23 = false := by kernel_rfl
  rw [run_eql_struct, show (10000 : Nat) = 9999 + 1 from rfl, run_equalIn_agg w 9999 23 _ _ hS hp]
  simp only [Program.fieldsOf, Try.underlying23]
  go_simp
  by_cases h1 : x = x2 <;> by_cases h2 : y = y2 <;> simp [h1, h2]
theorem rid_neq (x y x2 y2 : Int) (w : World) :
    (binOp .neq 23 (.agg #[.int .i64 x, .int .i64 y]) (.agg #[.int .i64 x2, .int .i64 y2])).run Try.prog w = .ok (.bool (!(decide (x = x2) && decide (y = y2)))) w := by
  have u3 := Try.underlying3
  have a3 := Try.isAgg3
  have z3 := Try.sizeOf3
  have hS : Try.prog.underlying 23 = some (.struct (Try.prog.fieldsOf 23)) := by kernel_rfl
  have hp : Try.prog.stoodInHeld 23 = false := by kernel_rfl
  rw [run_neq_struct, show (10000 : Nat) = 9999 + 1 from rfl, run_equalIn_agg w 9999 23 _ _ hS hp]
  simp only [Program.fieldsOf, Try.underlying23]
  go_simp
  by_cases h1 : x = x2 <;> by_cases h2 : y = y2 <;> simp [h1, h2]
/-- a history's name in a box. -/
def RdBox (w : World) (B : Nat) (n e : Int) : Prop := w.heap[B]? = some (.cells #[.int .i64 n, .int .i64 e] 23 (0, 0))
theorem RdBox.at {w : World} {B : Nat} {n e : Int} (h : RdBox w B n e) : w.cell? ⟨B, 0, none⟩ = some (.int .i64 n) ∧ w.cell? ⟨B, 1, none⟩ = some (.int .i64 e) := by
  unfold RdBox at h
  simp [World.cell?, h]
theorem RdBox.lt {w : World} {B : Nat} {n e : Int} (h : RdBox w B n e) : B < w.heap.size := (Array.getElem?_eq_some_iff.1 h).1
theorem RdBox.next {w W : World} {B : Nat} {n e : Int} (h : RdBox w B n e) (hb : Below w.heap.size w W) : RdBox W B n e := (hb.block B h.lt).trans h
def Ms.zero : Ms := Ms.ans 0 0 0 0 0 0 none [] 0
theorem loadMs {W : World} {B : Nat} {m : Ms} (h : MsBox W B m) : (loadVar 31 ⟨B, 0, none⟩).run Try.prog W = .ok m.v W := by
  obtain ⟨h0, h9, h10, h11, h12, h13, h14⟩ := h.at
  obtain ⟨h1, h2, h3, h4, h5, h6, h7, h8⟩ := h.rest
  simp [loadVar, go_sem, h0, h1, h2, h3, h4, h5, h6, h7, h8, h9, h10, h11, h12, h13, h14, Ms.v, Ms.cells]
/-- a message is stored, whole. -/
def stMs (W : World) (B : Nat) (m : Ms) : World :=
  ((((((((((((((W.setCell ⟨B, 0, none⟩ (.int .i64 m.k)).setCell ⟨B, 1, none⟩ (.int .i64 m.fr)).setCell ⟨B, 2, none⟩ (.int .i64 m.tt)).setCell ⟨B, 3, none⟩ (.int .i64 m.ep)).setCell ⟨B, 4, none⟩ (.slice m.aC m.nC m.cC)).setCell ⟨B, 5, none⟩ (.slice m.aN m.nN m.cN)).setCell ⟨B, 6, none⟩ (.int .i64 m.nd)).setCell ⟨B, 7, none⟩ (.int .i64 m.sl)).setCell ⟨B, 8, none⟩ (.int .i64 m.nu)).setCell ⟨B, 9, none⟩ (.int .i64 m.rn)).setCell ⟨B, 10, none⟩ (.int .i64 m.re)).setCell ⟨B, 11, none⟩ (.int .i64 m.pn)).setCell ⟨B, 12, none⟩ (.int .i64 m.pe)).setCell ⟨B, 13, none⟩ (.int .i64 m.off)).setCell ⟨B, 14, none⟩ (.slice m.a m.es.length m.c)
theorem MsBox.store {W : World} {B : Nat} {e : Ms} (h : MsBox W B e) (f : Ms) : MsBox (stMs W B f) B f := by
  unfold MsBox Ms.cells at h ⊢
  simp [stMs, World.setCell, Array.getElem?_modify, h]
theorem stMs_keeps {w W : World} {B : Nat} {S : Nat → Prop} (h : Keeps S w W) (hB : w.heap.size ≤ B ∨ ¬ S B) (m : Ms) : Keeps S w (stMs W B m) :=
  ((((((((((((((h.setCell (p := ⟨B, 0, none⟩) hB _).setCell (p := ⟨B, 1, none⟩) hB _).setCell (p := ⟨B, 2, none⟩) hB _).setCell (p := ⟨B, 3, none⟩) hB _).setCell (p := ⟨B, 4, none⟩) hB _).setCell (p := ⟨B, 5, none⟩) hB _).setCell (p := ⟨B, 6, none⟩) hB _).setCell (p := ⟨B, 7, none⟩) hB _).setCell (p := ⟨B, 8, none⟩) hB _).setCell (p := ⟨B, 9, none⟩) hB _).setCell (p := ⟨B, 10, none⟩) hB _).setCell (p := ⟨B, 11, none⟩) hB _).setCell (p := ⟨B, 12, none⟩) hB _).setCell (p := ⟨B, 13, none⟩) hB _).setCell (p := ⟨B, 14, none⟩) hB _
theorem stMs_T {W : World} {B : Nat} {e : Ms} (h : MsBox W B e) (f : Ms) : KeepsT W (stMs W B f) := stMs_keeps (Keeps.refl _ W) (.inr h.noTx) f
theorem stMs_below {w W : World} {B n : Nat} (h : Below n w W) (hB : n ≤ B) (hn : n ≤ w.heap.size) (m : Ms) : Below n w (stMs W B m) :=
  (stMs_keeps (S := fun k => k < n) (Keeps.of_below h fun k _ hk => hk) (.inr (by omega)) m).below hn fun k hk => hk
theorem MsBox.frees {w : World} {B : Nat} {m : Ms} (h : MsBox w B m) (j : Nat) : w.frozen? ⟨B, j, none⟩ = false := by
  unfold MsBox at h
  simp [World.frozen?, h]

set_option maxRecDepth 100000 in
set_option maxHeartbeats 4000000 in
theorem answer_any (f : Fe) (a : Option Addr) (cap : Nat) (ps : List Lp) (qn qe off : Int) (w : World) (hok : f.Ok w) (hP : Prs w a cap ps) (h0 : 0 ≤ f.off) (h1 : f.off ≤ 1152921504606846976) (hsm : ∀ e ∈ f.es, e.e.Sm) (hn : f.es.length ≤ 400) (hp : ps.length ≤ 100000) (hps : ∀ p ∈ ps, p.p.Sm) :
    Calls Try.prog 20 #[f.v, .slice a ps.length cap, .agg #[.int .i64 qn, .int .i64 qe], .int .i64 off] w (MsOut (Fd.answer f.f (Db.all (ps.map Lp.p)) qn qe off) w) := by
  obtain ⟨w3, hw3⟩ : ∃ w3, ((w.alloc (.cells #[.int .i64 f.rn, .int .i64 f.re, .int .i64 f.off, .slice f.a f.es.length f.c, .int .i64 f.pn, .int .i64 f.pe, .int .i64 f.unt] 26)).alloc (.cells #[.int .i64 qn, .int .i64 qe] 23)).alloc (.cells #[.int .i64 0, .int .i64 0, .int .i64 0, .int .i64 0, .slice none 0 0, .slice none 0 0, .int .i64 0, .int .i64 0, .int .i64 0, .int .i64 0, .int .i64 0, .int .i64 0, .int .i64 0, .int .i64 0, .slice none 0 0] 31) = w3 := ⟨_, rfl⟩
  have hb3 : Below w.heap.size w w3 := by rw [← hw3]; exact (((Below.refl _ w).alloc (Nat.le_refl _) _).alloc (by simp) _).alloc (by first | (simp; done) | (simp; omega)) _
  have hs3 : w3.heap.size = w.heap.size + 3 := by rw [← hw3]; simp
  have hx3 : FeBox w3 w.heap.size f := by
    rw [← hw3]
    exact (Below.heap_alloc _ _ _ (by first | (simp; done) | (simp; omega))).trans ((Below.heap_alloc _ _ _ (by simp)).trans (FeBox.new w f))
  have hr3 : RdBox w3 (w.heap.size + 1) qn qe := by
    rw [← hw3]
    refine (Below.heap_alloc _ _ _ (by simp)).trans ?_
    have := World.alloc_heap_new (w.alloc f.o) (.cells #[.int .i64 qn, .int .i64 qe] 23)
    rwa [World.size_alloc] at this
  have hm3 : MsBox w3 (w.heap.size + 2) Ms.zero := by
    rw [← hw3]
    have := World.alloc_heap_new ((w.alloc f.o).alloc (.cells #[.int .i64 qn, .int .i64 qe] 23)) (.cells Ms.zero.cells 31)
    rwa [World.size_alloc, World.size_alloc] at this
  have HW := Lib.hid hw3
  have HX := Lib.hid hx3
  have HR := Lib.hid hr3
  have HM := Lib.hid hm3
  have HB := Lib.hid hb3
  have HOK := Lib.hid (hok.later hb3)
  have HP := Lib.hid (hP.later hb3)
  have HSM := Lib.hid hsm
  have HPS := Lib.hid hps
  have HFI := Lib.hid (fun W' => first_any f W' h0 (by omega) (by omega))
  clear hw3 hx3 hr3 hm3 hb3 hok hP hsm hps
  obtain ⟨rn, re, fo, fa, es, c, pn, pe, unt⟩ := f
  unfold Fe.v at HFI ⊢
  simp only at h0 h1 hn HW HFI ⊢
  obtain ⟨B, hB⟩ : ∃ B, B = w.heap.size := ⟨_, rfl⟩
  rw [← hB] at HX HR HM hs3
  have HBB := Lib.hid hB
  obtain ⟨F, hF⟩ : ∃ F : Fd.F, Fe.f ⟨rn, re, fo, fa, es, c, pn, pe, unt⟩ = F := ⟨_, rfl⟩
  rw [hF]
  have HF := Lib.hid hF
  obtain ⟨SH, hSH⟩ : ∃ SH, Fd.shared F qn qe off = SH := ⟨_, rfl⟩
  have hSH2 : ((decide (qn = rn) && decide (qe = re)) || ((decide (qn = pn) && decide (qe = pe)) && decide (off ≤ unt))) = SH := by rw [← hSH, ← hF]; rfl
  have HSH := Lib.hid hSH
  have HSH2 := Lib.hid hSH2
  obtain ⟨b1, hb1⟩ : ∃ b1, (decide (qn = rn) && decide (qe = re)) = b1 := ⟨_, rfl⟩
  obtain ⟨b2, hb2⟩ : ∃ b2, (decide (qn = pn) && decide (qe = pe)) = b2 := ⟨_, rfl⟩
  have HE1 : Hid (∀ w, (binOp .eql 23 (.agg #[.int .i64 qn, .int .i64 qe]) (.agg #[.int .i64 rn, .int .i64 re])).run Try.prog w = .ok (.bool b1) w) := Lib.hid fun w => by rw [rid_eql, hb1]
  have HE2 : Hid (∀ w, (binOp .eql 23 (.agg #[.int .i64 qn, .int .i64 qe]) (.agg #[.int .i64 pn, .int .i64 pe])).run Try.prog w = .ok (.bool b2) w) := Lib.hid fun w => by rw [rid_eql, hb2]
  rw [hb1, hb2] at HSH2
  clear hF hSH hSH2 hb1 hb2
  go_enter Try.func20, Try.ntmps20
  go_upto_region 1 with (fail)
  rw [HW.out, ← hB]
  clear hB
  obtain ⟨⟨c0, c1, c2, c3, c4, c5, c6⟩, -⟩ := HX.out.at
  obtain ⟨r0, r1⟩ := HR.out.at
  simp only at c0 c1 c2 c3 c4 c5 c6
  go_cut [9] (fun s W => s = .bool SH ∧ W = w3)
  case first =>
    have e1 := HE1.out
    have e2 := HE2.out
    cases b1 with
    | true =>
      have hs : SH = true := by have := HSH2.out; simpa using this.symm
      subst hs
      go_wp2_with fail
      go_meet
      case rel => exact ⟨rfl, rfl⟩
    | false =>
      cases b2 with
      | false =>
        have hs : SH = false := by have := HSH2.out; simpa using this.symm
        subst hs
        go_wp2_with fail
        go_meet
        case rel => exact ⟨rfl, rfl⟩
      | true =>
        by_cases hu : off ≤ unt
        · have hs : SH = true := by have := HSH2.out; simpa [hu] using this.symm
          subst hs
          go_wp2_with fail
          go_meet
          case rel => exact ⟨rfl, rfl⟩
        · have hs : SH = false := by have := HSH2.out; simpa [hu] using this.symm
          subst hs
          go_wp2_with fail
          go_meet
          case rel => exact ⟨rfl, rfl⟩
  case rest =>
    obtain ⟨rfl, rfl⟩ := hcut
    obtain ⟨wb, rfl⟩ : ∃ wb : World, wb = wc := ⟨_, rfl⟩
    obtain ⟨HE, hHE⟩ : ∃ HE, Fd.here F qn qe off = HE := ⟨_, rfl⟩
    have hHE2 : (SH && decide (fo - (es.length : Int) ≤ off) && decide (off ≤ fo)) = HE := by
      rw [← hHE, ← HSH.out, ← HF.out]
      unfold Fd.here Fd.first Fe.f
      simp only [List.length_map]
    have HHE := Lib.hid hHE
    have HHE2 := Lib.hid hHE2
    have hBl := HX.out.lt
    clear hHE hHE2
    go_upto_region 2 with (fail)
    go_cut [39] (fun s W => s = .bool (!HE) ∧ Hid (Below wb.heap.size wb W))
    case first =>
      cases SH with
      | false =>
        have hs : HE = false := by have := HHE2.out; simpa using this.symm
        subst hs
        go_wp2_with fail
        go_meet
        case rel => exact ⟨rfl, Lib.hid (Below.refl _ _)⟩
      | true =>
        go_wp2_with fail
        refine (HFI.out _).mono ?_
        rintro e w4 ⟨rfl, hb4⟩
        have H4 := Lib.hid hb4
        have d2 := (hb4.cell (p := ⟨B, 2, none⟩) hBl).trans c2
        clear hb4
        by_cases hlt : off < fo - (es.length : Int)
        · have hs : HE = false := by have := HHE2.out; simpa [show ¬ fo - (es.length : Int) ≤ off by omega] using this.symm
          subst hs
          go_wp2_with fail
          go_meet
          case rel => exact ⟨rfl, H4⟩
        · by_cases hgt : fo < off
          · have hs : HE = false := by have := HHE2.out; simpa [show ¬ off ≤ fo by omega] using this.symm
            subst hs
            go_wp2_with fail
            go_meet
            case rel => exact ⟨rfl, H4⟩
          · have hs : HE = true := by have := HHE2.out; simpa [show off ≤ fo by omega, show fo - (es.length : Int) ≤ off by omega] using this.symm
            subst hs
            go_wp2_with fail
            go_meet
            case rel => exact ⟨by simp [hlt, hgt], H4⟩
    case rest =>
      obtain ⟨rfl, H4⟩ := hcut
      have HXc := Lib.hid (HX.out.next H4.out)
      have HRc := Lib.hid (HR.out.next H4.out)
      have hMc : MsBox wc (B + 1 + 1) Ms.zero := HM.out.next H4.out
      have HMc := Lib.hid hMc
      have hBc := HXc.out.lt
      have hRl := HRc.out.lt
      have hMl := hMc.lt
      have HBc := Lib.hid (HB.out.trans (H4.out.mono HB.out.size))
      have HOKc := Lib.hid (HOK.out.later H4.out)
      have HPc := Lib.hid (HP.out.later H4.out)
      clear c0 c1 c2 c3 c4 c5 c6 r0 r1 hMc
      obtain ⟨⟨c0, c1, c2, c3, c4, c5, c6⟩, -⟩ := HXc.out.at
      obtain ⟨r0, r1⟩ := HRc.out.at
      simp only at c0 c1 c2 c3 c4 c5 c6
      have fin : ∀ (k rn re pn pe of : Int) (W : World) (a : Option Addr) (xs : List Le) (cx : Nat) (m : Fd.M), Below wc.heap.size wc W → Efs W a cx xs → (a = none → cx = 0) → m = ⟨k, rn, re, pn, pe, of, xs.map Le.e⟩ →
          MsOut m w (.returned (Ms.ans k rn re pn pe of a xs cx).v) (stMs W (B + 1 + 1) (Ms.ans k rn re pn pe of a xs cx)) ∧ MsBox (stMs W (B + 1 + 1) (Ms.ans k rn re pn pe of a xs cx)) (B + 1 + 1) (Ms.ans k rn re pn pe of a xs cx) := fun k rn re pn pe of W a xs cx m hb he ha hm => by
        subst hm
        have hM := HMc.out.next hb
        have hbw := HBc.out.trans (hb.mono HBc.out.size)
        exact ⟨⟨a, xs, cx, rfl, he.keepT (stMs_T hM _), ha, rfl, stMs_below hbw (by rw [HBB.out]; omega) (Nat.le_refl _) _⟩, hM.store _⟩
      have FIN := Lib.hid fin
      clear fin
      have HS0 : Below wc.heap.size wc wc.drew := (Below.refl _ wc).drew
      cases HE with
      | false =>
        have HA : Hid (Fd.answer F (Db.all (ps.map Lp.p)) qn qe off = ⟨6, rn, re, 0, 0, fo, Db.all (ps.map Lp.p)⟩) := Lib.hid (by unfold Fd.answer; rw [HHE.out, ← HF.out]; rfl)
        have HALL := Lib.hid (fun W' (h : Below wc.heap.size wc W') => spall_any a cap ps W' (HPc.out.later h) hp HPS.out)
        go_wp2_with fail
        refine wp_region_L (S := fun W => Below wc.heap.size wc W) (f := 7) (by kernel_rfl) ?_
        refine wpAnyL_take (i := 0) (some 40) (v := .pointer (some ⟨B, 0, none⟩)) rfl rfl (by kernel_rfl) (by kernel_rfl) (by kernel_rfl) (by kernel_rfl) (fun _ _ _ h => h) (by rfl) (fun W hS => ?_) HS0 ?_
        · go_simp
        try simp only [Act.put, List.setIfInBounds_toArray, List.set_cons_zero, List.set_cons_succ]
        refine wpAnyL_take (i := 1) (some 41) (v := .agg #[.int .i64 rn, .int .i64 re]) rfl rfl (by kernel_rfl) (by kernel_rfl) (by kernel_rfl) (by kernel_rfl) (fun _ _ _ h => h) (by rfl) (fun W hS => ?_) HS0 ?_
        · have m0 := (hS.cell (p := ⟨B, 0, none⟩) hBc).trans c0
          have m1 := (hS.cell (p := ⟨B, 1, none⟩) hBc).trans c1
          go_simp
        try simp only [Act.put, List.setIfInBounds_toArray, List.set_cons_zero, List.set_cons_succ]
        refine wpAnyL_take (i := 2) (some 42) (v := .pointer (some ⟨B, 2, none⟩)) rfl rfl (by kernel_rfl) (by kernel_rfl) (by kernel_rfl) (by kernel_rfl) (fun _ _ _ h => h) (by rfl) (fun W hS => ?_) HS0 ?_
        · go_simp
        try simp only [Act.put, List.setIfInBounds_toArray, List.set_cons_zero, List.set_cons_succ]
        refine wpAnyL_take (i := 3) (some 43) (v := .int .i64 fo) rfl rfl (by kernel_rfl) (by kernel_rfl) (by kernel_rfl) (by kernel_rfl) (fun _ _ _ h => h) (by rfl) (fun W hS => ?_) HS0 ?_
        · have m2 := (hS.cell (p := ⟨B, 2, none⟩) hBc).trans c2
          go_simp
        try simp only [Act.put, List.setIfInBounds_toArray, List.set_cons_zero, List.set_cons_succ]
        refine wpAnyL_take (i := 4) (some 44) (v := .slice a ps.length cap) rfl rfl (by kernel_rfl) (by kernel_rfl) (by kernel_rfl) (by kernel_rfl) (fun _ _ _ h => h) (by rfl) (fun W hS => ?_) HS0 ?_
        · go_simp
        try simp only [Act.put, List.setIfInBounds_toArray, List.set_cons_zero, List.set_cons_succ]
        refine wpAnyL_one (j := 5) (by kernel_rfl) rfl (by rfl) (fun K hK => ?_)
        go_simp
        refine (HALL.out _ HS0).mono ?_
        rintro e w5 ⟨a5, cx5, xs, rfl, he5, hn5, hm5, hb5⟩
        have HS1 := HS0.trans (hb5.mono HS0.size)
        have HFN := Lib.hid (FIN.out 6 rn re 0 0 fo w5 a5 xs cx5 _ HS1 he5 hn5 rfl)
        have HXM := Lib.hid hm5
        clear he5 hn5 hm5 hb5
        refine hK _ _ (fun _ => HS1) ?_
        clear hK K
        try simp only [Act.put, List.setIfInBounds_toArray, List.set_cons_zero, List.set_cons_succ]
        refine wpAnyL_take (i := 6) (some 46) (v := .agg #[.int .i64 6, .int .i64 0, .int .i64 0, .int .i64 0, .slice none 0 0, .slice none 0 0, .int .i64 0, .int .i64 0, .int .i64 0, .int .i64 rn, .int .i64 re, .int .i64 0, .int .i64 0, .int .i64 fo, .slice a5 xs.length cx5]) rfl rfl (by kernel_rfl) (by kernel_rfl) (by kernel_rfl) (by kernel_rfl) (fun _ _ _ h => h) (by rfl) (fun W hS => ?_) HS1 ?_
        · go_simp
        try simp only [Act.put, List.setIfInBounds_toArray, List.set_cons_zero, List.set_cons_succ]
        refine wpAnyL_one (j := 7) (by kernel_rfl) rfl (by rfl) (fun K hK => ?_)
        have hM5 : MsBox w5 (B + 1 + 1) Ms.zero := HMc.out.next HS1
        obtain ⟨m0, m9, m10, m11, m12, m13, m14⟩ := hM5.at
        obtain ⟨m1, m2, m3, m4, m5, m6, m7, m8⟩ := hM5.rest
        have hfr := hM5.frees
        clear hM5
        simp only [Ms.zero, Ms.ans, List.length_nil] at m0 m1 m2 m3 m4 m5 m6 m7 m8 m9 m10 m11 m12 m13 m14
        go_simp
        refine hK _ _ (fun h => (h rfl).elim) ?_
        clear hK K m0 m1 m2 m3 m4 m5 m6 m7 m8 m9 m10 m11 m12 m13 m14 hfr
        try simp only [Act.put, List.setIfInBounds_toArray, List.set_cons_zero, List.set_cons_succ]
        refine wpAnyL_done (by kernel_rfl) ?_ _
        have HXF : Hid (MsOut (Fd.answer F (Db.all (ps.map Lp.p)) qn qe off) w (.returned (Ms.ans 6 rn re 0 0 fo a5 xs cx5).v) (stMs w5 (B + 1 + 1) (Ms.ans 6 rn re 0 0 fo a5 xs cx5))) := Lib.hid (by have h := HFN.out.1; rw [HXM.out, ← HA.out] at h; exact h)
        go_wp2_with fail
        exact bodyPost_ret (results_cell rfl rfl (loadMs HFN.out.2)) rfl HXF.out
      | true =>
        have HO : Hid (fo - (es.length : Int) ≤ off ∧ off ≤ fo) := Lib.hid (by have := HHE2.out; simp at this; omega)
        have ho := HO.out
        have HA : Hid (Fd.answer F (Db.all (ps.map Lp.p)) qn qe off = ⟨5, rn, re, qn, qe, off, ((es.drop (off - (fo - (es.length : Int))).toNat).take 16).map Le.e⟩) := Lib.hid (by
          unfold Fd.answer Fd.part Fd.first
          rw [HHE.out, ← HF.out]
          unfold Fe.f
          simp only [List.length_map, List.map_take, List.map_drop, if_true])
        have HAF := Lib.hid (fun W' => after_any ⟨rn, re, fo, fa, es, c, pn, pe, unt⟩ off W')
        have HCP := Lib.hid (fun W' (h : Below wc.heap.size wc W') => copies_any W'.heap.size ⟨rn, re, fo, fa, es, c, pn, pe, unt⟩ off 16 (afterW W' ⟨rn, re, fo, fa, es, c, pn, pe, unt⟩ off) (afterW_box _ _ _).1 (afterW_box _ _ _).2 ((HOKc.out.later h).later (afterW_below _ _ _)) ⟨⟨h0, by simp only; omega⟩, by simp only; omega, HSM.out⟩ (by omega) (by omega) (by decide))
        unfold Fe.v at HAF
        simp only at HAF HCP
        go_wp2_with fail
        refine wp_region_L (S := fun W => Below wc.heap.size wc W) (f := 9) (by kernel_rfl) ?_
        refine wpAnyL_take (i := 0) (some 47) (v := .pointer (some ⟨B, 0, none⟩)) rfl rfl (by kernel_rfl) (by kernel_rfl) (by kernel_rfl) (by kernel_rfl) (fun _ _ _ h => h) (by rfl) (fun W hS => ?_) HS0 ?_
        · go_simp
        try simp only [Act.put, List.setIfInBounds_toArray, List.set_cons_zero, List.set_cons_succ]
        refine wpAnyL_take (i := 1) (some 48) (v := .agg #[.int .i64 rn, .int .i64 re]) rfl rfl (by kernel_rfl) (by kernel_rfl) (by kernel_rfl) (by kernel_rfl) (fun _ _ _ h => h) (by rfl) (fun W hS => ?_) HS0 ?_
        · have m0 := (hS.cell (p := ⟨B, 0, none⟩) hBc).trans c0
          have m1 := (hS.cell (p := ⟨B, 1, none⟩) hBc).trans c1
          go_simp
        try simp only [Act.put, List.setIfInBounds_toArray, List.set_cons_zero, List.set_cons_succ]
        refine wpAnyL_take (i := 2) (some 49) (v := .agg #[.int .i64 qn, .int .i64 qe]) rfl rfl (by kernel_rfl) (by kernel_rfl) (by kernel_rfl) (by kernel_rfl) (fun _ _ _ h => h) (by rfl) (fun W hS => ?_) HS0 ?_
        · have m0 := (hS.cell (p := ⟨B + 1, 0, none⟩) hRl).trans r0
          have m1 := (hS.cell (p := ⟨B + 1, 1, none⟩) hRl).trans r1
          go_simp
        try simp only [Act.put, List.setIfInBounds_toArray, List.set_cons_zero, List.set_cons_succ]
        refine wpAnyL_take (i := 3) (some 50) (v := .int .i64 off) rfl rfl (by kernel_rfl) (by kernel_rfl) (by kernel_rfl) (by kernel_rfl) (fun _ _ _ h => h) (by rfl) (fun W hS => ?_) HS0 ?_
        · go_simp
        try simp only [Act.put, List.setIfInBounds_toArray, List.set_cons_zero, List.set_cons_succ]
        refine wpAnyL_take (i := 4) (some 51) (v := .agg #[.int .i64 rn, .int .i64 re, .int .i64 fo, .slice fa es.length c, .int .i64 pn, .int .i64 pe, .int .i64 unt]) rfl rfl (by kernel_rfl) (by kernel_rfl) (by kernel_rfl) (by kernel_rfl) (fun _ _ _ h => h) (by rfl) (fun W hS => ?_) HS0 ?_
        · have m0 := (hS.cell (p := ⟨B, 0, none⟩) hBc).trans c0
          have m1 := (hS.cell (p := ⟨B, 1, none⟩) hBc).trans c1
          have m2 := (hS.cell (p := ⟨B, 2, none⟩) hBc).trans c2
          have m3 := (hS.cell (p := ⟨B, 3, none⟩) hBc).trans c3
          have m4 := (hS.cell (p := ⟨B, 4, none⟩) hBc).trans c4
          have m5 := (hS.cell (p := ⟨B, 5, none⟩) hBc).trans c5
          have m6 := (hS.cell (p := ⟨B, 6, none⟩) hBc).trans c6
          go_simp
        try simp only [Act.put, List.setIfInBounds_toArray, List.set_cons_zero, List.set_cons_succ]
        refine wpAnyL_take (i := 5) (some 52) (v := .int .i64 off) rfl rfl (by kernel_rfl) (by kernel_rfl) (by kernel_rfl) (by kernel_rfl) (fun _ _ _ h => h) (by rfl) (fun W hS => ?_) HS0 ?_
        · go_simp
        try simp only [Act.put, List.setIfInBounds_toArray, List.set_cons_zero, List.set_cons_succ]
        refine wpAnyL_one (j := 6) (by kernel_rfl) rfl (by rfl) (fun K hK => ?_)
        go_simp
        refine (HAF.out _).mono ?_
        rintro e w4 ⟨rfl, rfl⟩
        have HC2 := Lib.hid (HCP.out _ HS0)
        have HS2 := HS0.trans ((afterW_below wc.drew ⟨rn, re, fo, fa, es, c, pn, pe, unt⟩ off).mono HS0.size)
        refine hK _ _ (fun _ => HS2) ?_
        clear hK K
        try simp only [Act.put, List.setIfInBounds_toArray, List.set_cons_zero, List.set_cons_succ]
        generalize afterW wc.drew ⟨rn, re, fo, fa, es, c, pn, pe, unt⟩ off = w4 at *
        refine wpAnyL_one (j := 7) (by kernel_rfl) rfl (by rfl) (fun K hK => ?_)
        go_simp
        refine HC2.out.mono ?_
        rintro e w5 ⟨a5, cx5, xs, rfl, he5, hn5, hm5, hb5⟩
        have HS1 := HS2.trans (hb5.mono HS2.size)
        have HFN := Lib.hid (FIN.out 5 rn re qn qe off w5 a5 xs cx5 _ HS1 he5 hn5 rfl)
        have HXM := Lib.hid hm5
        clear he5 hn5 hm5 hb5
        refine hK _ _ (fun _ => HS1) ?_
        clear hK K
        try simp only [Act.put, List.setIfInBounds_toArray, List.set_cons_zero, List.set_cons_succ]
        refine wpAnyL_take (i := 8) (some 55) (v := .agg #[.int .i64 5, .int .i64 0, .int .i64 0, .int .i64 0, .slice none 0 0, .slice none 0 0, .int .i64 0, .int .i64 0, .int .i64 0, .int .i64 rn, .int .i64 re, .int .i64 qn, .int .i64 qe, .int .i64 off, .slice a5 xs.length cx5]) rfl rfl (by kernel_rfl) (by kernel_rfl) (by kernel_rfl) (by kernel_rfl) (fun _ _ _ h => h) (by rfl) (fun W hS => ?_) HS1 ?_
        · go_simp
        try simp only [Act.put, List.setIfInBounds_toArray, List.set_cons_zero, List.set_cons_succ]
        refine wpAnyL_one (j := 9) (by kernel_rfl) rfl (by rfl) (fun K hK => ?_)
        have hM5 : MsBox w5 (B + 1 + 1) Ms.zero := HMc.out.next HS1
        obtain ⟨m0, m9, m10, m11, m12, m13, m14⟩ := hM5.at
        obtain ⟨m1, m2, m3, m4, m5, m6, m7, m8⟩ := hM5.rest
        have hfr := hM5.frees
        clear hM5
        simp only [Ms.zero, Ms.ans, List.length_nil] at m0 m1 m2 m3 m4 m5 m6 m7 m8 m9 m10 m11 m12 m13 m14
        go_simp
        refine hK _ _ (fun h => (h rfl).elim) ?_
        clear hK K m0 m1 m2 m3 m4 m5 m6 m7 m8 m9 m10 m11 m12 m13 m14 hfr
        try simp only [Act.put, List.setIfInBounds_toArray, List.set_cons_zero, List.set_cons_succ]
        refine wpAnyL_done (by kernel_rfl) ?_ _
        have HXF : Hid (MsOut (Fd.answer F (Db.all (ps.map Lp.p)) qn qe off) w (.returned (Ms.ans 5 rn re qn qe off a5 xs cx5).v) (stMs w5 (B + 1 + 1) (Ms.ans 5 rn re qn qe off a5 xs cx5))) := Lib.hid (by have h := HFN.out.1; rw [HXM.out, ← HA.out] at h; exact h)
        go_wp2_with fail
        exact bodyPost_ret (results_cell rfl rfl (loadMs HFN.out.2)) rfl HXF.out
end Go.Proofs.Ytihleddhjmejoaa
