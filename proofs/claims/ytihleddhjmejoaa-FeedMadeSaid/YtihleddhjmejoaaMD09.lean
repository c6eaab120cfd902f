/- Feeds, messages in memory; blocks without strings bear no list of strings, fields, pairs, effects. -/
import Derived.Test.YtihleddhjmejoaaMD06
import Derived.Test.YtihleddhjmejoaaMD08
namespace Go.Proofs.Ytihleddhjmejoaa
open Go.RowKit Go.Shelf
set_option linter.unusedVariables false

/-- some cell of the block holds a string. -/
def Tx (w : World) (B : Nat) : Prop := ∃ o s, w.cell? ⟨B, o, none⟩ = some (.string s)
/-- all blocks with strings are kept. -/
def KeepsT (w W : World) : Prop := Keeps (Tx w) w W
theorem Tx.keep {w W : World} (h : KeepsT w W) {B : Nat} (ht : Tx w B) : Tx W B := by
  obtain ⟨o, s, e⟩ := ht
  exact ⟨o, s, (Keeps.cell (p := ⟨B, o, none⟩) h (World.block_lt_of_cell? _ _ e) ⟨o, s, e⟩).trans e⟩
theorem KeepsT.refl (w : World) : KeepsT w w := Keeps.refl _ w
theorem KeepsT.trans {A B C : World} (h : KeepsT A B) (k : KeepsT B C) : KeepsT A C :=
  ⟨k.os.trans h.os, k.tape.trans h.tape, k.output.trans h.output, Nat.le_trans h.size k.size,
    fun i hi hs => (k.block i (Nat.lt_of_lt_of_le hi h.size) (Tx.keep h hs)).trans (h.block i hi hs)⟩
theorem KeepsT.of_below {A B : World} (h : Below A.heap.size A B) : KeepsT A B := Keeps.of_below h fun k hk _ => hk
theorem KeepsT.next {A B C : World} (h : KeepsT A B) (hb : Below B.heap.size B C) : KeepsT A C := h.trans (KeepsT.of_below hb)
theorem KeepsT.of_keeps {A B : World} {g : Nat} (h : Keeps (fun k => k ≠ g) A B) (hg : ¬ Tx A g) : KeepsT A B := Keeps.mono h fun k _ ht e => hg (e ▸ ht)
theorem KeepsT.size' {A B : World} (h : KeepsT A B) : A.heap.size ≤ B.heap.size := Keeps.size h

theorem Fds.keepT {w w' : World} {a : Option Addr} {cap : Nat} {fs : List (List UInt8 × List UInt8)} (h : Fds w a cap fs) (hk : KeepsT w w') : Fds w' a cap fs :=
  h.grown (fun h0 b off e hlt => by
    refine hk.block b hlt ?_
    obtain ⟨b', o', e', hlt', hc⟩ := h.get (List.length_pos_iff.2 h0)
    rw [e] at e'
    cases e'
    exact ⟨_, _, (hc 0 (List.length_pos_iff.2 h0)).1⟩) hk.size
theorem Wds.keepT {w w' : World} {a : Option Addr} {cap : Nat} {ws : List (List UInt8)} (h : Wds w a cap ws) (hk : KeepsT w w') : Wds w' a cap ws :=
  h.grown (fun h0 b off e hlt => by
    refine hk.block b hlt ?_
    obtain ⟨b', o', e', hlt', hc⟩ := h.get (List.length_pos_iff.2 h0)
    rw [e] at e'
    cases e'
    exact ⟨_, _, hc 0 (List.length_pos_iff.2 h0)⟩) hk.size
theorem Li.Ok.keepT {w w' : World} {p : Li} (h : p.Ok w) (hk : KeepsT w w') : p.Ok w' := ⟨h.1, h.2.1.keepT hk, h.2.2.1.keepT hk, h.2.2.2⟩
theorem Le.Ok.keepT {w w' : World} {p : Le} (h : p.Ok w) (hk : KeepsT w w') : p.Ok w' := ⟨h.1, h.2.keepT hk⟩
theorem Lp.Ok.keepT {w w' : World} {p : Lp} (h : p.Ok w) (hk : KeepsT w w') : p.Ok w' := ⟨h.1, h.2.keepT hk⟩
theorem rows_keepT {sz : Nat} {w w' : World} {a : Option Addr} {cap : Nat} {css : List (List Value)} (h : RowsIn sz w a cap css) (h0 : 0 < sz) (hs : ∀ c ∈ css, ∃ s, c[0]? = some (.string s)) (hk : KeepsT w w') : RowsIn sz w' a cap css := by
  by_cases hn : css = []
  · subst hn; exact ⟨h.1, h.2.1, .inl rfl⟩
  · refine h.keep hk.size fun b off e hlt => hk.block b hlt ?_
    obtain ⟨b', o', e', hlt', hc⟩ := h.get (List.length_pos_iff.2 hn)
    rw [e] at e'
    cases e'
    have hm : css.getD 0 [] ∈ css := by rw [getD_eq (List.length_pos_iff.2 hn)]; exact List.getElem_mem _
    obtain ⟨s, hs⟩ := hs _ hm
    exact ⟨_, s, (hc 0 (List.length_pos_iff.2 hn) 0 h0).trans hs⟩
theorem Efs.keepT {w w' : World} {a : Option Addr} {cap : Nat} {es : List Le} (h : Efs w a cap es) (hk : KeepsT w w') : Efs w' a cap es :=
  ⟨rows_keepT h.1 (by decide) (fun c hc => by obtain ⟨p, -, rfl⟩ := List.mem_map.1 hc; exact ⟨_, rfl⟩) hk, fun p hp => (h.2 p hp).keepT hk⟩
theorem Prs.keepT {w w' : World} {a : Option Addr} {cap : Nat} {es : List Lp} (h : Prs w a cap es) (hk : KeepsT w w') : Prs w' a cap es :=
  ⟨rows_keepT h.1 (by decide) (fun c hc => by obtain ⟨p, -, rfl⟩ := List.mem_map.1 hc; exact ⟨_, rfl⟩) hk, fun p hp => (h.2 p hp).keepT hk⟩

/-- a part of a slice of effects. -/
theorem Efs.drop {w : World} {b off cap : Nat} {es : List Le} (h : Efs w (some ⟨b, off, none⟩) cap es) (j : Nat) (hj : j ≤ es.length) : Efs w (some ⟨b, off + j * 7, none⟩) (cap - j) (es.drop j) := by
  have hl := h.len
  refine ⟨⟨by simp; omega, by have := h.1.2.1; omega, ?_⟩, fun p hp => h.2 p (List.mem_of_mem_drop hp)⟩
  by_cases h0 : es.drop j = []
  · exact .inl (by rw [h0]; rfl)
  · obtain ⟨b', o', e', hlt, hc⟩ := h.1.get (by rw [List.length_map]; have := List.length_pos_iff.2 h0; rw [List.length_drop] at this; omega)
    cases e'
    refine .inr ⟨b, off + j * 7, rfl, hlt, fun k hk i hi => ?_⟩
    rw [List.length_map, List.length_drop] at hk
    have := hc (j + k) (by rw [List.length_map]; omega) i hi
    rw [show off + j * 7 + k * 7 + i = off + (j + k) * 7 + i by omega, this]
    congr 1
    rw [map_getD Le.cs es Le.zero [] (by omega), map_getD Le.cs (es.drop j) Le.zero [] (by rw [List.length_drop]; omega)]
    simp [List.getD, List.getElem?_drop]
theorem Efs.take {w : World} {a : Option Addr} {cap : Nat} {es : List Le} (h : Efs w a cap es) (j : Nat) : Efs w a cap (es.take j) := by
  have hl := h.len
  refine ⟨⟨by simp; omega, h.1.2.1, ?_⟩, fun p hp => h.2 p (List.mem_of_mem_take hp)⟩
  by_cases h0 : es.take j = []
  · exact .inl (by rw [h0]; rfl)
  · have hp := List.length_pos_iff.2 h0
    rw [List.length_take] at hp
    obtain ⟨b, o, e', hlt, hc⟩ := h.1.get (by rw [List.length_map]; omega)
    refine .inr ⟨b, o, e', hlt, fun k hk i hi => ?_⟩
    rw [List.length_map, List.length_take] at hk
    rw [hc k (by rw [List.length_map]; omega) i hi]
    congr 1
    rw [map_getD Le.cs es Le.zero [] (by omega), map_getD Le.cs (es.take j) Le.zero [] (by rw [List.length_take]; omega)]
    simp [List.getD, show k < j by omega]
/-- nothing of it is read where it is empty. -/
theorem Efs.empty {w W : World} {a : Option Addr} {cap : Nat} (h : Efs w a cap []) : Efs W a cap [] := ⟨⟨h.1.1, h.1.2.1, .inl rfl⟩, by simp⟩

/-- a feed with the place of its effects. -/
structure Fe where
  rn : Int
  re : Int
  off : Int
  a : Option Addr
  es : List Le
  c : Nat
  pn : Int
  pe : Int
  unt : Int
def Fe.v (f : Fe) : Value := .agg #[.int .i64 f.rn, .int .i64 f.re, .int .i64 f.off, .slice f.a f.es.length f.c, .int .i64 f.pn, .int .i64 f.pe, .int .i64 f.unt]
def Fe.o (f : Fe) : Obj := .cells #[.int .i64 f.rn, .int .i64 f.re, .int .i64 f.off, .slice f.a f.es.length f.c, .int .i64 f.pn, .int .i64 f.pe, .int .i64 f.unt] 26
def Fe.f (f : Fe) : Fd.F := ⟨f.rn, f.re, f.off, f.es.map Le.e, f.pn, f.pe, f.unt⟩
def Fe.Ok (w : World) (f : Fe) : Prop := Efs w f.a f.c f.es ∧ (f.a = none → f.c = 0)
/-- its numbers, its effects are small. -/
def Fe.Sm (f : Fe) : Prop := (0 ≤ f.off ∧ f.off ≤ 2305843009213693952) ∧ f.es.length ≤ 1000 ∧ ∀ e ∈ f.es, e.e.Sm
theorem Fe.Ok.later {w W : World} {f : Fe} (h : f.Ok w) (hb : Below w.heap.size w W) : f.Ok W := ⟨h.1.later hb, h.2⟩
theorem Fe.Ok.keepT {w W : World} {f : Fe} (h : f.Ok w) (hb : KeepsT w W) : f.Ok W := ⟨h.1.keepT hb, h.2⟩
/-- a feed's box. -/
def FeBox (w : World) (B : Nat) (f : Fe) : Prop := w.heap[B]? = some (.cells #[.int .i64 f.rn, .int .i64 f.re, .int .i64 f.off, .slice f.a f.es.length f.c, .int .i64 f.pn, .int .i64 f.pe, .int .i64 f.unt] 26 (0, 0))
theorem FeBox.new (w : World) (f : Fe) : FeBox (w.alloc f.o) w.heap.size f := World.alloc_heap_new w _
theorem FeBox.lt {w : World} {B : Nat} {f : Fe} (h : FeBox w B f) : B < w.heap.size := (Array.getElem?_eq_some_iff.1 h).1
theorem FeBox.later {w W : World} {B n : Nat} {f : Fe} (h : FeBox w B f) (hb : Below n w W) (hB : B < n) : FeBox W B f := (hb.block B hB).trans h
theorem FeBox.next {w W : World} {B : Nat} {f : Fe} (h : FeBox w B f) (hb : Below w.heap.size w W) : FeBox W B f := h.later hb h.lt
theorem FeBox.keep {w W : World} {B : Nat} {f : Fe} {S : Nat → Prop} (h : FeBox w B f) (hk : Keeps S w W) (hs : S B) : FeBox W B f := hk.heap h hs
theorem FeBox.at {w : World} {B : Nat} {f : Fe} (h : FeBox w B f) :
    (w.cell? ⟨B, 0, none⟩ = some (.int .i64 f.rn) ∧ w.cell? ⟨B, 1, none⟩ = some (.int .i64 f.re) ∧ w.cell? ⟨B, 2, none⟩ = some (.int .i64 f.off) ∧ w.cell? ⟨B, 3, none⟩ = some (.slice f.a f.es.length f.c) ∧ w.cell? ⟨B, 4, none⟩ = some (.int .i64 f.pn) ∧ w.cell? ⟨B, 5, none⟩ = some (.int .i64 f.pe) ∧ w.cell? ⟨B, 6, none⟩ = some (.int .i64 f.unt)) ∧
    (w.frozen? ⟨B, 0, none⟩ = false ∧ w.frozen? ⟨B, 1, none⟩ = false ∧ w.frozen? ⟨B, 2, none⟩ = false ∧ w.frozen? ⟨B, 3, none⟩ = false ∧ w.frozen? ⟨B, 4, none⟩ = false ∧ w.frozen? ⟨B, 5, none⟩ = false ∧ w.frozen? ⟨B, 6, none⟩ = false) := by
  unfold FeBox at h
  simp [World.cell?, World.frozen?, h]
theorem cells_noTx {w : World} {B : Nat} {cs : Array Value} {t : TypeId} {fr : Nat × Nat} (h : w.heap[B]? = some (.cells cs t fr)) (hs : cs.all (fun v => match v with | .string _ => false | _ => true) = true) : ¬ Tx w B := by
  rintro ⟨o, s, e⟩
  rw [cell_of_row w B o cs t fr h] at e
  have := Array.all_eq_true.1 hs o (Array.getElem?_eq_some_iff.1 e).1
  rw [(Array.getElem?_eq_some_iff.1 e).2] at this
  exact absurd this (by simp)
theorem FeBox.noTx {w : World} {B : Nat} {f : Fe} (h : FeBox w B f) : ¬ Tx w B := cells_noTx h (by simp)
theorem FeBox.ne {w : World} {B g : Nat} {f : Fe} (h : FeBox w B f) (hg : Tx w g) : B ≠ g := fun e => h.noTx (e ▸ hg)
/-- a feed is stored, whole. -/
def stFe (W : World) (B : Nat) (f : Fe) : World :=
  ((((((W.setCell ⟨B, 0, none⟩ (.int .i64 f.rn)).setCell ⟨B, 1, none⟩ (.int .i64 f.re)).setCell ⟨B, 2, none⟩ (.int .i64 f.off)).setCell ⟨B, 3, none⟩ (.slice f.a f.es.length f.c)).setCell ⟨B, 4, none⟩ (.int .i64 f.pn)).setCell ⟨B, 5, none⟩ (.int .i64 f.pe)).setCell ⟨B, 6, none⟩ (.int .i64 f.unt)
theorem FeBox.store {W : World} {B : Nat} {e : Fe} (h : FeBox W B e) (f : Fe) : FeBox (stFe W B f) B f := by
  unfold FeBox at h ⊢
  simp [stFe, World.setCell, Array.getElem?_modify, h]
theorem stFe_keeps {w W : World} {B : Nat} {S : Nat → Prop} (h : Keeps S w W) (hB : w.heap.size ≤ B ∨ ¬ S B) (f : Fe) : Keeps S w (stFe W B f) :=
  ((((((h.setCell (p := ⟨B, 0, none⟩) hB _).setCell (p := ⟨B, 1, none⟩) hB _).setCell (p := ⟨B, 2, none⟩) hB _).setCell (p := ⟨B, 3, none⟩) hB _).setCell (p := ⟨B, 4, none⟩) hB _).setCell (p := ⟨B, 5, none⟩) hB _).setCell (p := ⟨B, 6, none⟩) hB _
theorem stFe_below {w W : World} {B n : Nat} (h : Below n w W) (hB : n ≤ B) (f : Fe) : Below n w (stFe W B f) :=
  ((((((h.setCell (p := ⟨B, 0, none⟩) hB _).setCell (p := ⟨B, 1, none⟩) hB _).setCell (p := ⟨B, 2, none⟩) hB _).setCell (p := ⟨B, 3, none⟩) hB _).setCell (p := ⟨B, 4, none⟩) hB _).setCell (p := ⟨B, 5, none⟩) hB _).setCell (p := ⟨B, 6, none⟩) hB _
theorem stFe_T {W : World} {B : Nat} {e : Fe} (h : FeBox W B e) (f : Fe) : KeepsT W (stFe W B f) := stFe_keeps (Keeps.refl _ W) (.inr h.noTx) f
/-- what a function that answers a feed tells. -/
def FeOut (f : Fd.F) (w : World) (e : Ending) (W : World) : Prop := ∃ g : Fe, e = .returned g.v ∧ g.Ok W ∧ g.f = f ∧ Below w.heap.size w W
def Fe.zero : Fe := ⟨0, 0, 0, none, [], 0, 0, 0, 0⟩
theorem Fe.zero_ok (w : World) : Fe.zero.Ok w := ⟨efs_nil w, fun _ => rfl⟩

/-- a message with the places of its lists. -/
structure Ms where
  k : Int
  fr : Int
  tt : Int
  ep : Int
  aC : Option Addr
  nC : Nat
  cC : Nat
  aN : Option Addr
  nN : Nat
  cN : Nat
  nd : Int
  sl : Int
  nu : Int
  rn : Int
  re : Int
  pn : Int
  pe : Int
  off : Int
  a : Option Addr
  es : List Le
  c : Nat
def Ms.cells (m : Ms) : Array Value := #[.int .i64 m.k, .int .i64 m.fr, .int .i64 m.tt, .int .i64 m.ep, .slice m.aC m.nC m.cC, .slice m.aN m.nN m.cN, .int .i64 m.nd, .int .i64 m.sl, .int .i64 m.nu, .int .i64 m.rn, .int .i64 m.re, .int .i64 m.pn, .int .i64 m.pe, .int .i64 m.off, .slice m.a m.es.length m.c]
def Ms.v (m : Ms) : Value := .agg m.cells
def Ms.m (m : Ms) : Fd.M := ⟨m.k, m.rn, m.re, m.pn, m.pe, m.off, m.es.map Le.e⟩
def Ms.Ok (w : World) (m : Ms) : Prop := Efs w m.a m.c m.es ∧ (m.a = none → m.c = 0)
def MsBox (w : World) (B : Nat) (m : Ms) : Prop := w.heap[B]? = some (.cells m.cells 31 (0, 0))
theorem Ms.Ok.later {w W : World} {f : Ms} (h : f.Ok w) (hb : Below w.heap.size w W) : f.Ok W := ⟨h.1.later hb, h.2⟩
theorem Ms.Ok.keepT {w W : World} {f : Ms} (h : f.Ok w) (hb : KeepsT w W) : f.Ok W := ⟨h.1.keepT hb, h.2⟩
theorem MsBox.new (w : World) (m : Ms) : MsBox (w.alloc (.cells m.cells 31)) w.heap.size m := World.alloc_heap_new w _
theorem MsBox.lt {w : World} {B : Nat} {f : Ms} (h : MsBox w B f) : B < w.heap.size := (Array.getElem?_eq_some_iff.1 h).1
theorem MsBox.later {w W : World} {B n : Nat} {f : Ms} (h : MsBox w B f) (hb : Below n w W) (hB : B < n) : MsBox W B f := (hb.block B hB).trans h
theorem MsBox.next {w W : World} {B : Nat} {f : Ms} (h : MsBox w B f) (hb : Below w.heap.size w W) : MsBox W B f := h.later hb h.lt
theorem MsBox.keep {w W : World} {B : Nat} {f : Ms} {S : Nat → Prop} (h : MsBox w B f) (hk : Keeps S w W) (hs : S B) : MsBox W B f := hk.heap h hs
theorem MsBox.noTx {w : World} {B : Nat} {f : Ms} (h : MsBox w B f) : ¬ Tx w B := cells_noTx h (by simp [Ms.cells])
theorem MsBox.at {w : World} {B : Nat} {m : Ms} (h : MsBox w B m) :
    w.cell? ⟨B, 0, none⟩ = some (.int .i64 m.k) ∧ w.cell? ⟨B, 9, none⟩ = some (.int .i64 m.rn) ∧ w.cell? ⟨B, 10, none⟩ = some (.int .i64 m.re) ∧ w.cell? ⟨B, 11, none⟩ = some (.int .i64 m.pn) ∧ w.cell? ⟨B, 12, none⟩ = some (.int .i64 m.pe) ∧ w.cell? ⟨B, 13, none⟩ = some (.int .i64 m.off) ∧ w.cell? ⟨B, 14, none⟩ = some (.slice m.a m.es.length m.c) := by
  unfold MsBox Ms.cells at h
  simp [World.cell?, h]
theorem MsBox.rest {w : World} {B : Nat} {m : Ms} (h : MsBox w B m) :
    w.cell? ⟨B, 1, none⟩ = some (.int .i64 m.fr) ∧ w.cell? ⟨B, 2, none⟩ = some (.int .i64 m.tt) ∧ w.cell? ⟨B, 3, none⟩ = some (.int .i64 m.ep) ∧ w.cell? ⟨B, 4, none⟩ = some (.slice m.aC m.nC m.cC) ∧ w.cell? ⟨B, 5, none⟩ = some (.slice m.aN m.nN m.cN) ∧ w.cell? ⟨B, 6, none⟩ = some (.int .i64 m.nd) ∧ w.cell? ⟨B, 7, none⟩ = some (.int .i64 m.sl) ∧ w.cell? ⟨B, 8, none⟩ = some (.int .i64 m.nu) := by
  unfold MsBox Ms.cells at h
  simp [World.cell?, h]
/-- an answer: all else is zero. -/
def Ms.ans (k rn re pn pe off : Int) (a : Option Addr) (es : List Le) (c : Nat) : Ms := ⟨k, 0, 0, 0, none, 0, 0, none, 0, 0, 0, 0, 0, rn, re, pn, pe, off, a, es, c⟩
def MsOut (m : Fd.M) (w : World) (e : Ending) (W : World) : Prop :=
  ∃ a es c, e = .returned (Ms.ans m.k m.rn m.re m.pn m.pe m.off a es c).v ∧ Efs W a c es ∧ (a = none → c = 0) ∧ es.map Le.e = m.es ∧ Below w.heap.size w W
end Go.Proofs.Ytihleddhjmejoaa
