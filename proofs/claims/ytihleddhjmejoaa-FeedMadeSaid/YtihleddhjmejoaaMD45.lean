/- The contract of the reference's Got (15.3). -/
import Derived.Test.YtihleddhjmejoaaMD42
import Derived.Test.YtihleddhjmejoaaMD44
import Derived.Test.YtihleddhjmejoaaMD26
namespace Go.Proofs.Ytihleddhjmejoaa
open Go.RowKit Go.Shelf
attribute [local go_sem] Oper.semAt_some
set_option linter.unusedVariables false
set_option linter.unusedSimpArgs false

/-- a feed, a space, a bool in a box. -/
def FdB (w : World) (B : Nat) (f : Fe) (a : Option Addr) (n c : Nat) (b : Bool) : Prop := w.heap[B]? = some (.cells #[.int .i64 f.rn, .int .i64 f.re, .int .i64 f.off, .slice f.a f.es.length f.c, .int .i64 f.pn, .int .i64 f.pe, .int .i64 f.unt, .slice a n c, .bool b] 39 (0, 0))
theorem FdB.lt {w : World} {B : Nat} {f : Fe} {a : Option Addr} {n c : Nat} {b : Bool} (h : FdB w B f a n c b) : B < w.heap.size := (Array.getElem?_eq_some_iff.1 h).1
theorem FdB.next {w W : World} {B : Nat} {f : Fe} {a : Option Addr} {n c : Nat} {b : Bool} (h : FdB w B f a n c b) (hb : Below w.heap.size w W) : FdB W B f a n c b := (hb.block B h.lt).trans h
theorem FdB.keep {w W : World} {B : Nat} {f : Fe} {a : Option Addr} {n c : Nat} {b : Bool} {S : Nat → Prop} (h : FdB w B f a n c b) (hk : Keeps S w W) (hs : S B) : FdB W B f a n c b := hk.heap h hs
theorem FdB.noTx {w : World} {B : Nat} {f : Fe} {a : Option Addr} {n c : Nat} {b : Bool} (h : FdB w B f a n c b) : ¬ Tx w B := cells_noTx h (by simp)
theorem FdB.at {w : World} {B : Nat} {f : Fe} {a : Option Addr} {n c : Nat} {b : Bool} (h : FdB w B f a n c b) :
    (w.cell? ⟨B, 0, none⟩ = some (.int .i64 f.rn) ∧ w.cell? ⟨B, 1, none⟩ = some (.int .i64 f.re) ∧ w.cell? ⟨B, 2, none⟩ = some (.int .i64 f.off) ∧ w.cell? ⟨B, 3, none⟩ = some (.slice f.a f.es.length f.c) ∧ w.cell? ⟨B, 4, none⟩ = some (.int .i64 f.pn) ∧ w.cell? ⟨B, 5, none⟩ = some (.int .i64 f.pe) ∧ w.cell? ⟨B, 6, none⟩ = some (.int .i64 f.unt) ∧ w.cell? ⟨B, 7, none⟩ = some (.slice a n c) ∧ w.cell? ⟨B, 8, none⟩ = some (.bool b)) ∧ ∀ j, w.frozen? ⟨B, j, none⟩ = false := by
  unfold FdB at h
  simp [World.cell?, World.frozen?, h]
theorem FdB.set8 {w : World} {B : Nat} {f : Fe} {a : Option Addr} {n c : Nat} {b : Bool} (h : FdB w B f a n c b) (b2 : Bool) : FdB (w.setCell ⟨B, 8, none⟩ (.bool b2)) B f a n c b2 := by
  unfold FdB at h ⊢
  simp [World.setCell, Array.getElem?_modify, h]
theorem FdB.set7 {w : World} {B : Nat} {f : Fe} {a : Option Addr} {n c : Nat} {b : Bool} (h : FdB w B f a n c b) (a2 : Option Addr) (n2 c2 : Nat) : FdB (w.setCell ⟨B, 7, none⟩ (.slice a2 n2 c2)) B f a2 n2 c2 b := by
  unfold FdB at h ⊢
  simp [World.setCell, Array.getElem?_modify, h]
theorem FdB.setF {w : World} {B : Nat} {f : Fe} {a : Option Addr} {n c : Nat} {b : Bool} (h : FdB w B f a n c b) (g : Fe) : FdB (stFe w B g) B g a n c b := by
  unfold FdB at h ⊢
  simp [stFe, World.setCell, Array.getElem?_modify, h]
theorem FdB.set4 {w : World} {B : Nat} {f : Fe} {a : Option Addr} {n c : Nat} {b : Bool} (h : FdB w B f a n c b) (x y : Int) : FdB ((w.setCell ⟨B, 4, none⟩ (.int .i64 x)).setCell ⟨B, 5, none⟩ (.int .i64 y)) B { f with pn := x, pe := y } a n c b := by
  unfold FdB at h ⊢
  simp [World.setCell, Array.getElem?_modify, h]
theorem FdB.set6 {w : World} {B : Nat} {f : Fe} {a : Option Addr} {n c : Nat} {b : Bool} (h : FdB w B f a n c b) (x : Int) : FdB (w.setCell ⟨B, 6, none⟩ (.int .i64 x)) B { f with unt := x } a n c b := by
  unfold FdB at h ⊢
  simp [World.setCell, Array.getElem?_modify, h]
theorem FdB.set0 {w : World} {B : Nat} {f : Fe} {a : Option Addr} {n c : Nat} {b : Bool} (h : FdB w B f a n c b) (x y : Int) : FdB ((w.setCell ⟨B, 0, none⟩ (.int .i64 x)).setCell ⟨B, 1, none⟩ (.int .i64 y)) B { f with rn := x, re := y } a n c b := by
  unfold FdB at h ⊢
  simp [World.setCell, Array.getElem?_modify, h]
/-- all of it is stored. -/
def stFd (w : World) (B : Nat) (g : Fe) (a : Option Addr) (n c : Nat) (b : Bool) : World := ((stFe w B g).setCell ⟨B, 7, none⟩ (.slice a n c)).setCell ⟨B, 8, none⟩ (.bool b)
theorem FdB.store {w : World} {B : Nat} {f : Fe} {a : Option Addr} {n c : Nat} {b : Bool} (h : FdB w B f a n c b) (g : Fe) (a2 : Option Addr) (n2 c2 : Nat) (b2 : Bool) : FdB (stFd w B g a2 n2 c2 b2) B g a2 n2 c2 b2 := ((h.setF g).set7 a2 n2 c2).set8 b2
theorem stFd_keeps {w W : World} {B : Nat} {S : Nat → Prop} (h : Keeps S w W) (hB : w.heap.size ≤ B ∨ ¬ S B) (g : Fe) (a : Option Addr) (n c : Nat) (b : Bool) : Keeps S w (stFd W B g a n c b) := ((stFe_keeps h hB g).setCell (p := ⟨B, 7, none⟩) hB _).setCell (p := ⟨B, 8, none⟩) hB _
theorem stFd_below {w W : World} {B n0 : Nat} (h : Below n0 w W) (hB : n0 ≤ B) (g : Fe) (a : Option Addr) (n c : Nat) (b : Bool) : Below n0 w (stFd W B g a n c b) := ((stFe_below h hB g).setCell (p := ⟨B, 7, none⟩) hB _).setCell (p := ⟨B, 8, none⟩) hB _
def fedV (g : Fe) (a : Option Addr) (n c : Nat) (b : Bool) : Value := .agg #[.int .i64 g.rn, .int .i64 g.re, .int .i64 g.off, .slice g.a g.es.length g.c, .int .i64 g.pn, .int .i64 g.pe, .int .i64 g.unt, .slice a n c, .bool b]
theorem loadFd {w : World} {B : Nat} {f : Fe} {a : Option Addr} {n c : Nat} {b : Bool} (h : FdB w B f a n c b) : (loadVar 39 ⟨B, 0, none⟩).run Try.prog w = .ok (fedV f a n c b) w := by
  obtain ⟨⟨h0, h1, h2, h3, h4, h5, h6, h7, h8⟩, -⟩ := h.at
  simp [loadVar, go_sem, h0, h1, h2, h3, h4, h5, h6, h7, h8, fedV]
/-- what the reference's Got tells. -/
def FedOut (f : Fd.F) (db : List Db.P) (b : Bool) (w : World) (e : Ending) (W : World) : Prop :=
  ∃ (g : Fe) (a : Option Addr) (cap : Nat) (ps : List Lp), e = .returned (fedV g a ps.length cap b) ∧ g.Ok W ∧ g.f = f ∧ Prs W a cap ps ∧ (a = none → cap = 0) ∧ ps.map Lp.p = db ∧ Below w.heap.size w W
set_option maxRecDepth 100000 in
set_option maxHeartbeats 4000000 in
theorem refGot_any (f : Fe) (a : Option Addr) (cap : Nat) (ps : List Lp) (m : Ms) (w : World) (hok : f.Ok w) (hP : Prs w a cap ps) (ha : a = none → cap = 0) (hmo : m.Ok w) (h0 : 0 ≤ f.off) (h1 : f.off ≤ 1152921504606846976) (hn : f.es.length ≤ 64) (hm : m.es.length ≤ 400)
    (hp : ps.length ≤ 100000) :
    Calls Try.prog 15 #[f.v, .slice a ps.length cap, m.v] w (FedOut (Fd.gotF f.f m.m) (Fd.gotD f.f (ps.map Lp.p) m.m) (Fd.gotB f.f m.m) w) := by
  obtain ⟨w3, hw3⟩ : ∃ w3, ((w.alloc (.cells #[.int .i64 f.rn, .int .i64 f.re, .int .i64 f.off, .slice f.a f.es.length f.c, .int .i64 f.pn, .int .i64 f.pe, .int .i64 f.unt] 26)).alloc (.cells #[.int .i64 m.k, .int .i64 m.fr, .int .i64 m.tt, .int .i64 m.ep, .slice m.aC m.nC m.cC, .slice m.aN m.nN m.cN, .int .i64 m.nd, .int .i64 m.sl, .int .i64 m.nu, .int .i64 m.rn, .int .i64 m.re, .int .i64 m.pn, .int .i64 m.pe, .int .i64 m.off, .slice m.a m.es.length m.c] 31)).alloc (.cells #[.int .i64 0, .int .i64 0, .int .i64 0, .slice none 0 0, .int .i64 0, .int .i64 0, .int .i64 0, .slice none 0 0, .bool false] 39) = w3 := ⟨_, rfl⟩
  have hb3 : Below w.heap.size w w3 := by rw [← hw3]; exact (((Below.refl _ w).alloc (Nat.le_refl _) _).alloc (by simp) _).alloc (by first | (simp; done) | (simp; omega)) _
  have hx3 : FeBox w3 w.heap.size f := by
    rw [← hw3]
    exact (Below.heap_alloc _ _ _ (by first | (simp; done) | (simp; omega))).trans ((Below.heap_alloc _ _ _ (by simp)).trans (FeBox.new w f))
  have hm3 : MsBox w3 (w.heap.size + 1) m := by
    rw [← hw3]
    refine (Below.heap_alloc _ _ _ (by simp)).trans ?_
    have := MsBox.new (w.alloc f.o) m
    rwa [World.size_alloc] at this
  have hz3 : FdB w3 (w.heap.size + 1 + 1) Fe.zero none 0 0 false := by
    rw [← hw3]
    have := World.alloc_heap_new ((w.alloc f.o).alloc (.cells #[.int .i64 m.k, .int .i64 m.fr, .int .i64 m.tt, .int .i64 m.ep, .slice m.aC m.nC m.cC, .slice m.aN m.nN m.cN, .int .i64 m.nd, .int .i64 m.sl, .int .i64 m.nu, .int .i64 m.rn, .int .i64 m.re, .int .i64 m.pn, .int .i64 m.pe, .int .i64 m.off, .slice m.a m.es.length m.c] 31)) (.cells #[.int .i64 0, .int .i64 0, .int .i64 0, .slice none 0 0, .int .i64 0, .int .i64 0, .int .i64 0, .slice none 0 0, .bool false] 39)
    rwa [World.size_alloc, World.size_alloc] at this
  have HW := Lib.hid hw3
  have HX := Lib.hid hx3
  have HM := Lib.hid hm3
  have HZ := Lib.hid hz3
  have HB := Lib.hid hb3
  have HAP := Lib.hid (fun W (aP : Prs W a cap ps) (aE : Efs W m.a m.c m.es) => refApply_any a cap ps m.a m.c m.es W aP aE hp (by omega) ha)
  have HA0 := Lib.hid (fun W (aE : Efs W m.a m.c m.es) => refApply_any none 0 [] m.a m.c m.es W (prs_nil W) aE (by simp) (by omega) (fun _ => rfl))
  have HAD := Lib.hid (fun W (aF : f.Ok W) (aE : Efs W m.a m.c m.es) => refAdd_any f m.a m.c m.es W aF aE hmo.2 h0 h1 (by omega) hm)
  have HFO := Lib.hid (hok.later hb3)
  have HPO := Lib.hid (hP.later hb3)
  have HMOK := Lib.hid (hmo.later hb3)
  have HPA := Lib.hid ha
  have HSUB : Hid (Fd.sup f.f m.m = (!decide (m.rn = f.rn) || decide (f.re < m.re) || ((decide (m.rn = f.rn) && decide (m.re = f.re)) && decide (f.off < m.off)))) := Lib.hid rfl
  obtain ⟨b1, hb1⟩ : ∃ b, (decide (m.pn = f.rn) && decide (m.pe = f.re)) = b := ⟨_, rfl⟩
  have HE1 : Hid (∀ w, (binOp .eql 23 (.agg #[.int .i64 m.pn, .int .i64 m.pe]) (.agg #[.int .i64 f.rn, .int .i64 f.re])).run Try.prog w = .ok (.bool b1) w) := Lib.hid fun w => by rw [rid_eql, hb1]
  obtain ⟨ON, hON⟩ : ∃ b, Fd.onB f.f m.m = b := ⟨_, rfl⟩
  have HO : Hid ((decide (m.k = 5) && b1 && decide (m.off = f.off)) = ON) := Lib.hid (by rw [← hON, ← hb1]; rfl)
  obtain ⟨SU, hSU⟩ : ∃ b, Fd.sup f.f m.m = b := ⟨_, rfl⟩
  obtain ⟨FU, hFU⟩ : ∃ b, Fd.fullB f.f m.m = b := ⟨_, rfl⟩
  have HFU : Hid ((decide (m.k = 6) && SU) = FU) := Lib.hid (by rw [← hFU, ← hSU]; rfl)
  obtain ⟨RF, hRF⟩ : ∃ R, Fd.gotF f.f m.m = R := ⟨_, rfl⟩
  obtain ⟨RD, hRD⟩ : ∃ R, Fd.gotD f.f (ps.map Lp.p) m.m = R := ⟨_, rfl⟩
  obtain ⟨RB, hRB⟩ : ∃ R, Fd.gotB f.f m.m = R := ⟨_, rfl⟩
  have HRF : Hid (RF = if ON = true then Fd.onward f.f m.m else if FU = true then ⟨m.rn, m.re, m.off, [], 0, 0, 0⟩ else f.f) := Lib.hid (by rw [← hRF, ← hON, ← hFU]; rfl)
  have HRD : Hid (RD = if ON = true then Db.app (ps.map Lp.p) (m.es.map Le.e) else if FU = true then Db.app [] (m.es.map Le.e) else ps.map Lp.p) := Lib.hid (by rw [← hRD, ← hON, ← hFU]; rfl)
  have HRB : Hid (RB = (ON || FU)) := Lib.hid (by rw [← hRB, ← hON, ← hFU]; rfl)
  obtain ⟨b2, hb2⟩ : ∃ b, (decide (m.rn = f.rn) && decide (m.re = f.re)) = b := ⟨_, rfl⟩
  have HE2 : Hid (∀ w, (binOp .eql 23 (.agg #[.int .i64 m.rn, .int .i64 m.re]) (.agg #[.int .i64 f.rn, .int .i64 f.re])).run Try.prog w = .ok (.bool b2) w) := Lib.hid fun w => by rw [rid_eql, hb2]
  have HE3 : Hid (∀ w, (binOp .neq 23 (.agg #[.int .i64 m.rn, .int .i64 m.re]) (.agg #[.int .i64 f.rn, .int .i64 f.re])).run Try.prog w = .ok (.bool (!b2)) w) := Lib.hid fun w => by rw [rid_neq, hb2]
  rw [hSU, hb2] at HSUB
  have HTU : Hid (Fd.onward f.f m.m = if (!b2) = true then { Fd.add f.f (m.es.map Le.e) with rn := m.rn, re := m.re, pn := f.rn, pe := f.re, unt := f.off } else Fd.add f.f (m.es.map Le.e)) := Lib.hid (by rw [← hb2]; rfl)
  clear hb2
  rw [hRF, hRD, hRB]
  clear hw3 hx3 hm3 hz3 hb3 hok hP hmo hb1 hON hSU hFU hRF hRD hRB
  obtain ⟨k, fr, tt, ep, aC, nC, cC, aN, nN, cN, nd, sl, nu, mrn, mre, mpn, mpe, moff, ma, mes, mc⟩ := m
  obtain ⟨rn, re, off, fa, es, c, pn, pe, unt⟩ := f
  unfold Fe.v Ms.v Ms.cells at *
  simp only [List.length_nil] at HO HE1 HE2 HE3 HW HFU HAP HA0 HAD HSUB HTU HRF HRD ⊢
  obtain ⟨B, hB⟩ : ∃ B, B = w.heap.size := ⟨_, rfl⟩
  rw [← hB] at HX HM HZ
  have HBB := Lib.hid hB
  go_enter Try.func15, Try.ntmps15
  go_upto_region 1 with (fail)
  rw [HW.out, ← hB]
  clear hB
  have hBl := HX.out.lt
  have hMl := HM.out.lt
  obtain ⟨⟨y0, y1, y2, y3, y4, y5, y6⟩, -⟩ := HX.out.at
  simp only at y0 y1 y2 y3 y4 y5 y6
  obtain ⟨w4, hw4⟩ : ∃ w4, w3.alloc (.cells #[.int .i64 rn, .int .i64 re, .int .i64 off, .slice fa es.length c, .int .i64 pn, .int .i64 pe, .int .i64 unt, .slice a ps.length cap, .bool false] 39) = w4 := ⟨_, rfl⟩
  have hb4 : Below w3.heap.size w3 w4 := by rw [← hw4]; exact (Below.refl _ w3).alloc (Nat.le_refl _) _
  have ht4 : FdB w4 w3.heap.size ⟨rn, re, off, fa, es, c, pn, pe, unt⟩ a ps.length cap false := by rw [← hw4]; exact World.alloc_heap_new w3 _
  have HX4 := Lib.hid (HX.out.next hb4)
  have HM4 := Lib.hid (HM.out.next hb4)
  have HZ4 := Lib.hid (HZ.out.next hb4)
  have HB4 := Lib.hid (HB.out.trans (hb4.mono HB.out.size))
  have HF4 := Lib.hid (HFO.out.later hb4)
  have HP4 := Lib.hid (HPO.out.later hb4)
  have HMO4 := Lib.hid (HMOK.out.later hb4)
  have HW4 := Lib.hid hw4
  have HT4 := Lib.hid ht4
  obtain ⟨T, hT⟩ : ∃ T, T = w3.heap.size := ⟨_, rfl⟩
  rw [← hT] at HT4
  have hTB : B + 1 + 1 < T := by have := HZ.out.lt; omega
  have hH4 : Below w3.heap.size w3 w4 := hb4
  have HH4 := Lib.hid hH4
  clear hw4 hb4 ht4 hH4
  go_upto_region 2 with (fail)
  rw [HW4.out, ← hT]
  clear hT y0 y1 y2 y3 y4 y5 y6
  -- the end: all is told once the box T holds what it must
  have fin : ∀ (W : World) (g : Fe) (a2 : Option Addr) (qs : List Lp) (c2 : Nat), Keeps (fun k => k ≠ T) w4 W → FdB W T g a2 qs.length c2 RB → g.Ok W → g.f = RF → Prs W a2 c2 qs → (a2 = none → c2 = 0) → qs.map Lp.p = RD →
      FdB W (B + 1 + 1) Fe.zero none 0 0 false ∧ FedOut RF RD RB w (.returned (fedV g a2 qs.length c2 RB)) (stFd W (B + 1 + 1) g a2 qs.length c2 RB) := fun W g a2 qs c2 hk hF h1 h2 h3 h4 h5 => by
    have hz := HZ4.out.keep hk (by omega)
    have hTT : KeepsT W (stFd W (B + 1 + 1) g a2 qs.length c2 RB) := stFd_keeps (Keeps.refl _ W) (.inr hz.noTx) _ _ _ _ _
    have hzl := HBB.out
    have hz3 := HB.out.size
    exact ⟨hz, g, a2, c2, qs, rfl, h1.keepT hTT, h2, h3.keepT hTT, h4, h5, stFd_below (HB4.out.trans (hk.below HB4.out.size fun k hk => by omega)) (by omega) _ _ _ _ _⟩
  have FIN := Lib.hid fin
  clear fin
  go_cut [11] (fun s W => s = .bool ON ∧ W = w4)
  case first =>
    have e1 := HE1.out
    obtain ⟨x0, x9, x10, x11, x12, x13, x14⟩ := HM4.out.at
    obtain ⟨⟨y0, y1, y2, y3, y4, y5, y6⟩, -⟩ := HX4.out.at
    simp only at x0 x9 x10 x11 x12 x13 x14 y0 y1 y2 y3 y4 y5 y6
    by_cases hk : k = 5
    rotate_left
    · have hs : ON = false := by have := HO.out; simpa [hk] using this.symm
      subst hs
      have hk2 : (k == 5) = false := by simpa using hk
      go_wp2_with fail
      go_meet
      case rel => exact ⟨rfl, rfl⟩
    subst hk
    cases b1 with
    | false =>
      have hs : ON = false := by have := HO.out; simpa using this.symm
      subst hs
      go_wp2_with fail
      go_meet
      case rel => exact ⟨rfl, rfl⟩
    | true =>
      by_cases ho : moff = off
      · have hs : ON = true := by have := HO.out; simpa [ho] using this.symm
        subst hs
        subst ho
        go_wp2_with fail
        go_meet
        case rel => exact ⟨rfl, rfl⟩
      · have hs : ON = false := by have := HO.out; simpa [ho] using this.symm
        subst hs
        have ho2 : (moff == off) = false := by simpa using ho
        go_wp2_with fail
        go_meet
        case rel => exact ⟨rfl, rfl⟩
  case rest =>
  obtain ⟨rfl, hww⟩ := hcut
  subst hww
  cases ON with
  | true =>
    have hrb : RB = true := by rw [HRB.out]; rfl
    subst hrb
    obtain ⟨w5, hww5⟩ : ∃ W, wc.setCell ⟨T, 8, none⟩ (.bool true) = W := ⟨_, rfl⟩
    have ht5 := HT4.out.set8 true
    have hk5 := (Keeps.refl (fun k => k ≠ T) wc).setCell (p := ⟨T, 8, none⟩) (.inr (by simp)) (.bool true)
    rw [hww5] at ht5 hk5
    have HWw5 := Lib.hid hww5
    clear hww5
    obtain ⟨⟨-, -, -, -, -, -, -, -, t8⟩, tf⟩ := HT4.out.at
    have tf8 := tf 8
    clear tf
    go_upto_region 4 with (fail)
    rw [HWw5.out]
    clear t8 tf8
    have hT5 := KeepsT.of_keeps hk5 HT4.out.noTx
    obtain ⟨-, -, -, -, -, -, x14⟩ := (HM4.out.keep hk5 (by omega)).at
    simp only at x14
    have HA5 := Lib.hid (HAP.out w5 (HP4.out.keepT hT5) (HMO4.out.keepT hT5).1)
    obtain ⟨⟨-, -, -, -, -, -, -, t7, -⟩, tf⟩ := ht5.at
    have HT5 := Lib.hid ht5
    have HK5 := Lib.hid hk5
    clear hT5 ht5 hk5 t7 tf
    go_wp2_with fail
    refine HA5.out.mono ?_
    rintro e w6 ⟨a2, c2, qs, rfl, hq, hqn, hqm, hb6⟩
    have ht6 := HT5.out.next hb6
    have hk6 : Keeps (fun k => k ≠ T) wc w6 := HK5.out.trans (Keeps.of_below hb6 fun k hk _ => hk)
    have hT67 : KeepsT w6 (w6.setCell ⟨T, 7, none⟩ (.slice a2 qs.length c2)) := (Keeps.refl _ w6).setCell (.inr ht6.noTx) _
    have hq7 := hq.keepT hT67
    obtain ⟨w7, hww7⟩ : ∃ W, w6.setCell ⟨T, 7, none⟩ (.slice a2 qs.length c2) = W := ⟨_, rfl⟩
    have ht7 := ht6.set7 a2 qs.length c2
    have hk7 := hk6.setCell (p := ⟨T, 7, none⟩) (.inr (by simp)) (.slice a2 qs.length c2)
    have hq7' := hq7
    rw [hww7] at ht7 hk7 hq7'
    have HWw7 := Lib.hid hww7
    clear hww7
    have HQ7 := Lib.hid hq7'
    have HQM : Hid (qs.map Lp.p = RD) := Lib.hid (by rw [hqm, HRD.out]; rfl)
    have HQN := Lib.hid hqn
    obtain ⟨⟨-, -, -, -, -, -, -, t7, -⟩, tf⟩ := ht6.at
    have tf7 := tf 7
    have HT7 := Lib.hid ht7
    have HK7 := Lib.hid hk7
    clear tf hq hqn hqm hb6 ht6 hk6 hT67 hq7 hq7' ht7 hk7
    go_upto_region 5 with (fail)
    rw [HWw7.out]
    clear t7 tf7 x14
    have hT7 := KeepsT.of_keeps HK7.out HT4.out.noTx
    obtain ⟨-, -, -, -, -, -, x14⟩ := (HM4.out.keep HK7.out (by omega)).at
    obtain ⟨⟨y0, y1, y2, y3, y4, y5, y6⟩, -⟩ := (HX4.out.keep HK7.out (by omega)).at
    simp only at x14 y0 y1 y2 y3 y4 y5 y6
    have had := HAD.out w7 (HF4.out.keepT hT7) (HMO4.out.keepT hT7).1
    have HA7 := Lib.hid had
    clear had hT7
    go_wp2_with fail
    refine HA7.out.mono ?_
    rintro e w8 ⟨g, rfl, hgo, hgf, hb8⟩
    have ht8 := HT7.out.next hb8
    have hk8 : Keeps (fun k => k ≠ T) wc w8 := HK7.out.trans (Keeps.of_below hb8 fun k hk _ => hk)
    have hT89 : KeepsT w8 (stFe w8 T g) := stFe_keeps (Keeps.refl _ w8) (.inr ht8.noTx) g
    have HGO : Hid (g.Ok (stFe w8 T g)) := Lib.hid (hgo.keepT hT89)
    have HQ9 : Hid (Prs (stFe w8 T g) a2 c2 qs) := Lib.hid ((HQ7.out.later hb8).keepT hT89)
    have HGF := Lib.hid hgf
    have ht9 := ht8.setF g
    have hk9 : Keeps (fun k => k ≠ T) wc (stFe w8 T g) := stFe_keeps hk8 (.inr (by simp)) g
    obtain ⟨⟨t0, t1, t2, t3, t4, t5, t6, -, -⟩, tf⟩ := ht8.at
    have tf0 := tf 0; have tf1 := tf 1; have tf2 := tf 2; have tf3 := tf 3; have tf4 := tf 4; have tf5 := tf 5; have tf6 := tf 6
    clear tf hgo hgf hb8 ht8 hk8 hT89 x14 y0 y1 y2 y3 y4 y5 y6
    obtain ⟨grn, gre, goff, ga, ges, gc, gpn, gpe, gunt⟩ := g
    obtain ⟨w9, hw9⟩ : ∃ W, stFe w8 T ⟨grn, gre, goff, ga, ges, gc, gpn, gpe, gunt⟩ = W := ⟨_, rfl⟩
    rw [hw9] at HGO HQ9 ht9 hk9
    unfold stFe at hw9
    simp only at hw9 t0 t1 t2 t3 t4 t5 t6
    have HW9 := Lib.hid hw9
    have HT9 := Lib.hid ht9
    have HK9 := Lib.hid hk9
    clear hw9 ht9 hk9
    unfold Fe.v
    simp only
    go_upto_region 6 with (fail)
    rw [HW9.out]
    clear t0 t1 t2 t3 t4 t5 t6 tf0 tf1 tf2 tf3 tf4 tf5 tf6
    obtain ⟨-, x9, x10, -⟩ := (HM4.out.keep HK9.out (by omega)).at
    obtain ⟨⟨y0, y1, y2, y3, y4, y5, y6⟩, -⟩ := (HX4.out.keep HK9.out (by omega)).at
    simp only at x9 x10 y0 y1 y2 y3 y4 y5 y6
    have e3 := HE3.out
    have hgf' := HGF.out
    cases b2 with
    | true =>
      have hrf : Fe.f ⟨grn, gre, goff, ga, ges, gc, gpn, gpe, gunt⟩ = RF := by rw [hgf', HRF.out, if_pos trivial, HTU.out]; simp
      have HRF2 := Lib.hid hrf
      clear hgf' hrf y2 y3 y4 y5 y6
      go_upto_region 14 with (fail)
      clear x9 x10 y0 y1 e3
      have hfin := FIN.out w9 ⟨grn, gre, goff, ga, ges, gc, gpn, gpe, gunt⟩ a2 qs c2 HK9.out HT9.out HGO.out HRF2.out HQ9.out HQN.out HQM.out
      have HFIN := Lib.hid hfin
      obtain ⟨⟨g0, g1, g2, g3, g4, g5, g6, g7, g8⟩, -⟩ := (HT9.out).at
      obtain ⟨⟨z0, z1, z2, z3, z4, z5, z6, z7, z8⟩, zf⟩ := hfin.1.at
      simp only [Fe.zero, List.length_nil] at g0 g1 g2 g3 g4 g5 g6 g7 g8 z0 z1 z2 z3 z4 z5 z6 z7 z8
      clear hfin
      go_wp2_with fail
      exact bodyPost_ret (results_cell rfl rfl (loadFd (HFIN.out.1.store ⟨grn, gre, goff, ga, ges, gc, gpn, gpe, gunt⟩ a2 qs.length c2 _))) rfl HFIN.out.2
    | false =>
      have hrf : Fe.f ⟨mrn, mre, goff, ga, ges, gc, rn, re, off⟩ = RF := by
        rw [HRF.out, if_pos trivial, HTU.out, ← hgf']
        simp [Fe.f]
      have HRF2 := Lib.hid hrf
      obtain ⟨⟨-, -, -, -, t4, t5, t6, -, -⟩, tf⟩ := HT9.out.at
      simp only at t4 t5 t6
      have tf4 := tf 4; have tf5 := tf 5
      clear hgf' hrf tf y3 y4 y5 y6
      obtain ⟨w10, hww10⟩ : ∃ W, (w9.setCell ⟨T, 4, none⟩ (.int .i64 rn)).setCell ⟨T, 5, none⟩ (.int .i64 re) = W := ⟨_, rfl⟩
      have ht10 := HT9.out.set4 rn re
      have hk10 := set2_keeps (B := T) (i := 4) (j := 5) HK9.out (.inr (by simp)) (.int .i64 rn) (.int .i64 re)
      have hu10 := set2_keeps (B := T) (i := 4) (j := 5) (S := Tx w9) (Keeps.refl _ w9) (.inr HT9.out.noTx) (.int .i64 rn) (.int .i64 re)
      rw [hww10] at ht10 hk10 hu10
      have HWw10 := Lib.hid hww10
      clear hww10
      simp only at ht10
      go_upto_region 8 with (fail)
      rw [HWw10.out]
      clear t4 t5 t6 tf4 tf5 x9 x10 y0 y1 y2 e3
      obtain ⟨⟨-, -, y2, -⟩, -⟩ := (HX4.out.keep hk10 (by omega)).at
      obtain ⟨⟨-, -, -, -, -, -, t6, -, -⟩, tf⟩ := ht10.at
      simp only at y2 t6
      have tf6 := tf 6
      clear tf
      obtain ⟨w11, hww11⟩ : ∃ W, w10.setCell ⟨T, 6, none⟩ (.int .i64 off) = W := ⟨_, rfl⟩
      have ht11 := ht10.set6 off
      have hk11 := hk10.setCell (p := ⟨T, 6, none⟩) (.inr (by simp)) (.int .i64 off)
      have hu11 := (show KeepsT w9 w10 from hu10).trans ((Keeps.refl _ w10).setCell (p := ⟨T, 6, none⟩) (.inr ht10.noTx) (.int .i64 off))
      rw [hww11] at ht11 hk11 hu11
      have HWw11 := Lib.hid hww11
      clear hww11
      simp only at ht11
      clear ht10 hk10 hu10
      go_upto_region 9 with (fail)
      rw [HWw11.out]
      clear t6 tf6 y2
      obtain ⟨-, x9, x10, -⟩ := (HM4.out.keep hk11 (by omega)).at
      obtain ⟨⟨t0, t1, -⟩, tf⟩ := ht11.at
      simp only at x9 x10 t0 t1
      have tf0 := tf 0; have tf1 := tf 1
      clear tf
      obtain ⟨w12, hww12⟩ : ∃ W, (w11.setCell ⟨T, 0, none⟩ (.int .i64 mrn)).setCell ⟨T, 1, none⟩ (.int .i64 mre) = W := ⟨_, rfl⟩
      have ht12 := ht11.set0 mrn mre
      have hk12 := set2_keeps (B := T) (i := 0) (j := 1) hk11 (.inr (by simp)) (.int .i64 mrn) (.int .i64 mre)
      have hu12 := hu11.trans (set2_keeps (B := T) (i := 0) (j := 1) (S := Tx w11) (Keeps.refl _ w11) (.inr ht11.noTx) (.int .i64 mrn) (.int .i64 mre))
      rw [hww12] at ht12 hk12 hu12
      have HWw12 := Lib.hid hww12
      clear hww12
      simp only at ht12
      have HT12 := Lib.hid ht12
      have HK12 := Lib.hid hk12
      have hgo12 : Fe.Ok w12 ⟨mrn, mre, goff, ga, ges, gc, rn, re, off⟩ := ⟨HGO.out.1.keepT hu12, HGO.out.2⟩
      have HGO12 := Lib.hid hgo12
      have HQ12 := Lib.hid (HQ9.out.keepT hu12)
      clear ht11 hk11 hu11 ht12 hk12 hu12 hgo12
      go_upto_region 14 with (fail)
      rw [HWw12.out]
      clear t0 t1 tf0 tf1 x9 x10
      have hfin := FIN.out w12 ⟨mrn, mre, goff, ga, ges, gc, rn, re, off⟩ a2 qs c2 HK12.out HT12.out HGO12.out HRF2.out HQ12.out HQN.out HQM.out
      have HFIN := Lib.hid hfin
      obtain ⟨⟨g0, g1, g2, g3, g4, g5, g6, g7, g8⟩, -⟩ := (HT12.out).at
      obtain ⟨⟨z0, z1, z2, z3, z4, z5, z6, z7, z8⟩, zf⟩ := hfin.1.at
      simp only [Fe.zero, List.length_nil] at g0 g1 g2 g3 g4 g5 g6 g7 g8 z0 z1 z2 z3 z4 z5 z6 z7 z8
      clear hfin
      go_wp2_with fail
      exact bodyPost_ret (results_cell rfl rfl (loadFd (HFIN.out.1.store ⟨mrn, mre, goff, ga, ges, gc, rn, re, off⟩ a2 qs.length c2 _))) rfl HFIN.out.2
  | false =>
    go_upto_region 10 with (fail)
    go_cut [57] (fun s W => s = .bool FU ∧ W = wc)
    case first =>
      have e2 := HE2.out
      obtain ⟨x0, x9, x10, x11, x12, x13, x14⟩ := HM4.out.at
      obtain ⟨⟨y0, y1, y2, y3, y4, y5, y6⟩, -⟩ := HX4.out.at
      simp only at x0 x9 x10 x11 x12 x13 x14 y0 y1 y2 y3 y4 y5 y6
      by_cases hk : k = 6
      rotate_left
      · have hs : FU = false := by have := HFU.out; simpa [hk] using this.symm
        subst hs
        have hk2 : (k == 6) = false := by simpa using hk
        go_wp2_with fail
        go_meet
        case rel => exact ⟨rfl, rfl⟩
      subst hk
      have hsu : SU = FU := by have := HFU.out; simpa using this
      have hsb := HSUB.out
      rw [hsu] at hsb
      have HSB := Lib.hid hsb
      clear hsu hsb
      by_cases h1 : mrn = rn
      rotate_left
      · have hr : FU = true := by have := HSB.out; simpa [h1] using this
        subst hr
        have h1' : (mrn == rn) = false := by simpa using h1
        have h1'' : (mrn != rn) = true := by simpa using h1
        go_wp2_with fail
        go_meet
        case rel => exact ⟨rfl, rfl⟩
      subst h1
      by_cases h2 : re < mre
      · have hr : FU = true := by have := HSB.out; simpa [h2] using this
        subst hr
        go_wp2_with fail
        go_meet
        case rel => exact ⟨rfl, rfl⟩
      cases b2 with
      | false =>
        have hr : FU = false := by have := HSB.out; simpa [h2] using this
        subst hr
        go_wp2_with fail
        go_meet
        case rel => exact ⟨rfl, rfl⟩
      | true =>
        by_cases h3 : off < moff
        · have hr : FU = true := by have := HSB.out; simpa [h2, h3] using this
          subst hr
          go_wp2_with fail
          go_meet
          case rel => exact ⟨rfl, rfl⟩
        · have hr : FU = false := by have := HSB.out; simpa [h2, h3] using this
          subst hr
          go_wp2_with fail
          go_meet
          case rel => exact ⟨rfl, rfl⟩
    case rest =>
    obtain ⟨rfl, hww⟩ := hcut
    subst hww
    cases FU with
    | true =>
      have hrb : RB = true := by rw [HRB.out]; rfl
      subst hrb
      have hrf : Fe.f ⟨mrn, mre, moff, none, [], 0, 0, 0, 0⟩ = RF := by rw [HRF.out]; simp [Fe.f]
      have HRF2 := Lib.hid hrf
      clear hrf
      go_upto_region 11 with (fail)
      obtain ⟨w5, hww5⟩ : ∃ W, wc.setCell ⟨T, 8, none⟩ (.bool true) = W := ⟨_, rfl⟩
      have ht5 := HT4.out.set8 true
      have hk5 := (Keeps.refl (fun k => k ≠ T) wc).setCell (p := ⟨T, 8, none⟩) (.inr (by simp)) (.bool true)
      rw [hww5] at ht5 hk5
      have HWw5 := Lib.hid hww5
      clear hww5
      obtain ⟨⟨-, -, -, -, -, -, -, -, t8⟩, tf⟩ := HT4.out.at
      have tf8 := tf 8
      clear tf
      go_upto_region 12 with (fail)
      rw [HWw5.out]
      clear t8 tf8
      have hT5 := KeepsT.of_keeps hk5 HT4.out.noTx
      obtain ⟨-, -, -, -, -, -, x14⟩ := (HM4.out.keep hk5 (by omega)).at
      simp only at x14
      have HA5 := Lib.hid (HA0.out w5 (HMO4.out.keepT hT5).1)
      have HT5 := Lib.hid ht5
      have HK5 := Lib.hid hk5
      clear hT5 ht5 hk5
      go_wp2_with fail
      refine HA5.out.mono ?_
      rintro e w6 ⟨a2, c2, qs, rfl, hq, hqn, hqm, hb6⟩
      have ht6 := HT5.out.next hb6
      have hk6 : Keeps (fun k => k ≠ T) wc w6 := HK5.out.trans (Keeps.of_below hb6 fun k hk _ => hk)
      have hT67 : KeepsT w6 (w6.setCell ⟨T, 7, none⟩ (.slice a2 qs.length c2)) := (Keeps.refl _ w6).setCell (.inr ht6.noTx) _
      have hq7 := hq.keepT hT67
      obtain ⟨w7, hww7⟩ : ∃ W, w6.setCell ⟨T, 7, none⟩ (.slice a2 qs.length c2) = W := ⟨_, rfl⟩
      have ht7 := ht6.set7 a2 qs.length c2
      have hk7 := hk6.setCell (p := ⟨T, 7, none⟩) (.inr (by simp)) (.slice a2 qs.length c2)
      have hq7' := hq7
      rw [hww7] at ht7 hk7 hq7'
      have HWw7 := Lib.hid hww7
      clear hww7
      have HQM : Hid (qs.map Lp.p = RD) := Lib.hid (by rw [hqm, HRD.out]; simp)
      have HQN := Lib.hid hqn
      obtain ⟨⟨-, -, -, -, -, -, -, t7, -⟩, tf⟩ := ht6.at
      have tf7 := tf 7
      have HQ9 : Hid (Prs (stFe w7 T ⟨mrn, mre, moff, none, [], 0, 0, 0, 0⟩) a2 c2 qs) := Lib.hid (hq7'.keepT (stFe_keeps (Keeps.refl _ w7) (.inr ht7.noTx) _))
      have ht9 := ht7.setF ⟨mrn, mre, moff, none, [], 0, 0, 0, 0⟩
      have hk9 : Keeps (fun k => k ≠ T) wc (stFe w7 T ⟨mrn, mre, moff, none, [], 0, 0, 0, 0⟩) := stFe_keeps hk7 (.inr (by simp)) _
      have HT7 := Lib.hid ht7
      have HK7 := Lib.hid hk7
      clear tf hq hqn hqm hb6 ht6 hk6 hT67 hq7 hq7' ht7 hk7
      go_upto_region 13 with (fail)
      rw [HWw7.out]
      clear t7 tf7 x14
      obtain ⟨-, x9, x10, -, -, x13, -⟩ := (HM4.out.keep HK7.out (by omega)).at
      obtain ⟨⟨t0, t1, t2, t3, t4, t5, t6, -, -⟩, tf⟩ := HT7.out.at
      simp only at x9 x10 x13 t0 t1 t2 t3 t4 t5 t6
      have tf0 := tf 0; have tf1 := tf 1; have tf2 := tf 2; have tf3 := tf 3; have tf4 := tf 4; have tf5 := tf 5; have tf6 := tf 6
      obtain ⟨w9, hw9⟩ : ∃ W, stFe w7 T ⟨mrn, mre, moff, none, [], 0, 0, 0, 0⟩ = W := ⟨_, rfl⟩
      rw [hw9] at HQ9 ht9 hk9
      unfold stFe at hw9
      simp only [List.length_nil] at hw9
      have HW9 := Lib.hid hw9
      have HT9 := Lib.hid ht9
      have HK9 := Lib.hid hk9
      have HGO : Hid (Fe.Ok w9 ⟨mrn, mre, moff, none, [], 0, 0, 0, 0⟩) := Lib.hid ⟨efs_nil _, fun _ => rfl⟩
      clear hw9 ht9 hk9 tf
      go_upto_region 14 with (fail)
      rw [HW9.out]
      clear t0 t1 t2 t3 t4 t5 t6 tf0 tf1 tf2 tf3 tf4 tf5 tf6 x9 x10 x13
      have hfin := FIN.out w9 ⟨mrn, mre, moff, none, [], 0, 0, 0, 0⟩ a2 qs c2 HK9.out HT9.out HGO.out HRF2.out HQ9.out HQN.out HQM.out
      have HFIN := Lib.hid hfin
      obtain ⟨⟨g0, g1, g2, g3, g4, g5, g6, g7, g8⟩, -⟩ := (HT9.out).at
      obtain ⟨⟨z0, z1, z2, z3, z4, z5, z6, z7, z8⟩, zf⟩ := hfin.1.at
      simp only [Fe.zero, List.length_nil] at g0 g1 g2 g3 g4 g5 g6 g7 g8 z0 z1 z2 z3 z4 z5 z6 z7 z8
      clear hfin
      go_wp2_with fail
      exact bodyPost_ret (results_cell rfl rfl (loadFd (HFIN.out.1.store ⟨mrn, mre, moff, none, [], 0, 0, 0, 0⟩ a2 qs.length c2 _))) rfl HFIN.out.2
    | false =>
      have hrb : RB = false := by rw [HRB.out]; rfl
      subst hrb
      have hrf : Fe.f ⟨rn, re, off, fa, es, c, pn, pe, unt⟩ = RF := by rw [HRF.out]; rfl
      have HRF2 := Lib.hid hrf
      have HRD2 : Hid (ps.map Lp.p = RD) := Lib.hid (by rw [HRD.out]; rfl)
      have HKK := Lib.hid (Keeps.refl (fun k => k ≠ T) wc)
      clear hrf
      go_upto_region 14 with (fail)
      have hfin := FIN.out wc ⟨rn, re, off, fa, es, c, pn, pe, unt⟩ a ps cap HKK.out HT4.out HF4.out HRF2.out HP4.out HPA.out HRD2.out
      have HFIN := Lib.hid hfin
      obtain ⟨⟨g0, g1, g2, g3, g4, g5, g6, g7, g8⟩, -⟩ := (HT4.out).at
      obtain ⟨⟨z0, z1, z2, z3, z4, z5, z6, z7, z8⟩, zf⟩ := hfin.1.at
      simp only [Fe.zero, List.length_nil] at g0 g1 g2 g3 g4 g5 g6 g7 g8 z0 z1 z2 z3 z4 z5 z6 z7 z8
      clear hfin
      go_wp2_with fail
      exact bodyPost_ret (results_cell rfl rfl (loadFd (HFIN.out.1.store ⟨rn, re, off, fa, es, c, pn, pe, unt⟩ a ps.length cap _))) rfl HFIN.out.2
end Go.Proofs.Ytihleddhjmejoaa
