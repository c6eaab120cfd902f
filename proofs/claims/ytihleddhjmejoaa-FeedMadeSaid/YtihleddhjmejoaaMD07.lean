/- Fields in memory; an item is stored into its box, part after part; what a copy's loops keep. What item.Copy tells; where rows of the call's own lie. No Make, HSet, SAdd. -/
import Derived.Test.YtihleddhjmejoaaMD04
import Derived.Maps.OwnIn
import Derived.Deep.Cut
import Derived.Laws.AppendOwnNone
import Derived.Deep.RegionHeld3
import Derived.Deep.AppendLies
import Derived.Deep.DeepCutAuto
import Derived.Test.YtihleddhjmejoaaMD06
import Derived.BigQuiet
import Derived.IntWalk
namespace Go.Proofs.Ytihleddhjmejoaa
open Go.RowKit Go.Shelf

set_option linter.unusedVariables false
set_option linter.unusedSimpArgs false

/-- an item is stored into an item's box. -/
def stIt (w : World) (B : Nat) (k : Int) (s : List UInt8) (aF : Option Addr) (nF cF : Nat) (aL : Option Addr) (nL cL : Nat) (x : Int) : World :=
  ((((w.setCell ⟨B, 0, none⟩ (.int .i64 k)).setCell ⟨B, 1, none⟩ (.string ⟨s.toArray⟩)).setCell ⟨B, 2, none⟩ (.slice aF nF cF)).setCell ⟨B, 3, none⟩ (.slice aL nL cL)).setCell ⟨B, 4, none⟩ (.int .i64 x)

theorem ItBox.store {w : World} {B : Nat} {k0 : Int} {s0 : List UInt8} {a0 : Option Addr} {n0 c0 : Nat} {b0 : Option Addr} {m0 d0 : Nat} {x0 : Int} (h : ItBox w B k0 s0 a0 n0 c0 b0 m0 d0 x0) (k : Int) (s : List UInt8) (aF : Option Addr) (nF cF : Nat) (aL : Option Addr) (nL cL : Nat) (x : Int) :
    ItBox (stIt w B k s aF nF cF aL nL cL x) B k s aF nF cF aL nL cL x := by
  unfold ItBox at h ⊢
  simp [stIt, World.setCell, Array.getElem?_modify, h]
theorem Keeps.stIt {S : Nat → Prop} {A W : World} (h : Keeps S A W) {B : Nat} (hB : A.heap.size ≤ B ∨ ¬ S B) (k : Int) (s : List UInt8) (aF : Option Addr) (nF cF : Nat) (aL : Option Addr) (nL cL : Nat) (x : Int) : Keeps S A (stIt W B k s aF nF cF aL nL cL x) :=
  ((((h.setCell (p := ⟨B, 0, none⟩) hB _).setCell (p := ⟨B, 1, none⟩) hB _).setCell (p := ⟨B, 2, none⟩) hB _).setCell (p := ⟨B, 3, none⟩) hB _).setCell (p := ⟨B, 4, none⟩) hB _
theorem ItBox.free {w : World} {B : Nat} {k : Int} {s : List UInt8} {aF : Option Addr} {nF cF : Nat} {aL : Option Addr} {nL cL : Nat} {x : Int} (h : ItBox w B k s aF nF cF aL nL cL x) :
    w.frozen? ⟨B, 0, none⟩ = false ∧ w.frozen? ⟨B, 1, none⟩ = false ∧ w.frozen? ⟨B, 2, none⟩ = false ∧ w.frozen? ⟨B, 3, none⟩ = false ∧ w.frozen? ⟨B, 4, none⟩ = false := by
  unfold ItBox at h
  simp [World.frozen?, h]
theorem ItBox.set2 {w : World} {B : Nat} {k : Int} {s : List UInt8} {aF : Option Addr} {nF cF : Nat} {aL : Option Addr} {nL cL : Nat} {x : Int} (h : ItBox w B k s aF nF cF aL nL cL x) (a : Option Addr) (n c : Nat) :
    ItBox (w.setCell ⟨B, 2, none⟩ (.slice a n c)) B k s a n c aL nL cL x := by
  unfold ItBox at h ⊢
  simp [World.setCell, Array.getElem?_modify, h]
theorem ItBox.set3 {w : World} {B : Nat} {k : Int} {s : List UInt8} {aF : Option Addr} {nF cF : Nat} {aL : Option Addr} {nL cL : Nat} {x : Int} (h : ItBox w B k s aF nF cF aL nL cL x) (a : Option Addr) (n c : Nat) :
    ItBox (w.setCell ⟨B, 3, none⟩ (.slice a n c)) B k s aF nF cF a n c x := by
  unfold ItBox at h ⊢
  simp [World.setCell, Array.getElem?_modify, h]
theorem ItBox.keep {w w' : World} {S : Nat → Prop} {B : Nat} {k : Int} {s : List UInt8} {aF : Option Addr} {nF cF : Nat} {aL : Option Addr} {nL cL : Nat} {x : Int} (h : ItBox w B k s aF nF cF aL nL cL x) (hk : Keeps S w w') (hS : S B) : ItBox w' B k s aF nF cF aL nL cL x := hk.heap h hS

theorem loadVarI {w : World} {B : Nat} {k : Int} {s : List UInt8} {aF : Option Addr} {nF cF : Nat} {aL : Option Addr} {nL cL : Nat} {x : Int} (h : ItBox w B k s aF nF cF aL nL cL x) : (loadVar 59 ⟨B, 0, none⟩).run Try.prog w = .ok (itv k s aF nF cF aL nL cL x) w := by
  obtain ⟨h0, h1, h2, h3, h4⟩ := h.at
  simp [loadVar, go_sem, h0, h1, h2, h3, h4, itv]

theorem cp_old {W w1 : World} (hb : Below W.drew.heap.size W.drew w1) : Below W.heap.size W w1 := ((Below.refl _ W).drew).trans hb
theorem far5 {w : World} {B b o : Nat} (h : b ≠ B) (v0 v1 v2 v3 v4 : Value) : (((((w.setCell ⟨B, 0, none⟩ v0).setCell ⟨B, 1, none⟩ v1).setCell ⟨B, 2, none⟩ v2).setCell ⟨B, 3, none⟩ v3).setCell ⟨B, 4, none⟩ v4).cell? ⟨b, o, none⟩ = w.cell? ⟨b, o, none⟩ := by
  simp [World.setCell, World.cell?, Array.getElem?_modify, Ne.symm h]

theorem cp_new {W w1 : World} (hb : Below (W.alloc (.cells #[.int .i64 0, .string ⟨#[]⟩, .slice none 0 0, .slice none 0 0, .int .i64 0] 59)).drew.heap.size (W.alloc (.cells #[.int .i64 0, .string ⟨#[]⟩, .slice none 0 0, .slice none 0 0, .int .i64 0] 59)).drew w1) : Below W.heap.size W w1 ∧ ItBox w1 W.heap.size 0 [] none 0 0 none 0 0 0 :=
  ⟨(((Below.refl _ W).alloc (Nat.le_refl _) _).drew).trans (hb.mono (by simp [go_sem])), (hb.block _ (by simp [go_sem])).trans (ItBox.new W 0 [] none 0 0 none 0 0 0)⟩

/-- the copy's box, as the loops find it. -/
def CpAt (W0 : World) (k : Int) (s : List UInt8) (x : Int) (p : Value) (W1 : World) : Prop :=
  ∃ Bc, p = .pointer (some ⟨Bc, 0, none⟩) ∧ W0.heap.size ≤ Bc ∧ ItBox W1 Bc k s none 0 0 none 0 0 x ∧ Below W0.heap.size W0 W1

theorem cpAt_late {W0 w1 : World} {k : Int} {s : List UInt8} {x : Int} (hb : Below W0.heap.size W0 w1) : CpAt W0 k s x (.pointer (some ⟨w1.heap.size, 0, none⟩)) (w1.alloc (.cells #[.int .i64 k, .string ⟨s.toArray⟩, .slice none 0 0, .slice none 0 0, .int .i64 x] 59)) :=
  ⟨_, rfl, hb.size, ItBox.new w1 k s none 0 0 none 0 0 x, hb.alloc hb.size _⟩
theorem cpAt_early {W0 w1 : World} {k : Int} {s : List UInt8} {x : Int} (hb : Below W0.heap.size W0 w1) (hx : ItBox w1 W0.heap.size 0 [] none 0 0 none 0 0 0) : CpAt W0 k s x (.pointer (some ⟨W0.heap.size, 0, none⟩))
    (((((w1.setCell ⟨W0.heap.size, 0, none⟩ (.int .i64 k)).setCell ⟨W0.heap.size, 1, none⟩ (.string ⟨s.toArray⟩)).setCell ⟨W0.heap.size, 2, none⟩ (.slice none 0 0)).setCell ⟨W0.heap.size, 3, none⟩ (.slice none 0 0)).setCell ⟨W0.heap.size, 4, none⟩ (.int .i64 x)) :=
  ⟨_, rfl, Nat.le_refl _, hx.store k s none 0 0 none 0 0 x, ((((hb.setCell (p := ⟨W0.heap.size, 0, none⟩) (Nat.le_refl _) _).setCell (p := ⟨W0.heap.size, 1, none⟩) (Nat.le_refl _) _).setCell (p := ⟨W0.heap.size, 2, none⟩) (Nat.le_refl _) _).setCell (p := ⟨W0.heap.size, 3, none⟩) (Nat.le_refl _) _).setCell (p := ⟨W0.heap.size, 4, none⟩) (Nat.le_refl _) _⟩

/-- the first loop: so many fields lie in the copy. -/
def CpF (W1 : World) (Bc : Nat) (k : Int) (s : List UInt8) (x : Int) (fs : List (List UInt8 × List UInt8)) (q : Nat) (wr : World) : Prop :=
  ∃ a c, ItBox wr Bc k s a q c none 0 0 x ∧ wr.ownsRow W1.heap.size 87 2 (.slice a q c) q (fcells (fs.take q)) ∧ Keeps (fun j => j ≠ Bc) W1 wr
/-- .. the second one: so many words. -/
def CpL (W2 : World) (Bc : Nat) (k : Int) (s : List UInt8) (aF : Option Addr) (nF cF : Nat) (x : Int) (ws : List (List UInt8)) (q : Nat) (wr : World) : Prop :=
  ∃ a c, ItBox wr Bc k s aF nF cF a q c x ∧ wr.ownsRow W2.heap.size 9 1 (.slice a q c) q (wcells (ws.take q)) ∧ Keeps (fun j => j ≠ Bc) W2 wr

theorem cpS0 {wr : World} {p : Addr} {v0 : Value} {n v : List UInt8} (h : wr.cell? p = some v0) :
    (wr.alloc (.cells #[.string ⟨n.toArray⟩, .string ⟨v.toArray⟩] 87)).drew.cell? p = some v0 ∧ (wr.alloc (.cells #[.string ⟨n.toArray⟩, .string ⟨v.toArray⟩] 87)).drew.cell? ⟨wr.heap.size, 0, none⟩ = some (.string ⟨n.toArray⟩) ∧ (wr.alloc (.cells #[.string ⟨n.toArray⟩, .string ⟨v.toArray⟩] 87)).drew.cell? ⟨wr.heap.size, 1, none⟩ = some (.string ⟨v.toArray⟩) := by
  refine ⟨?_, ?_, ?_⟩
  · rw [World.cell?_drew, World.cell?_alloc_lt _ _ _ (World.block_lt_of_cell? wr p h)]
    exact h
  · exact World.news_of_block (World.alloc_heap_new wr _) 0 _ rfl
  · exact World.news_of_block (World.alloc_heap_new wr _) 1 _ rfl
theorem cpSb {A B : World} {p0 p1 p2 : Addr} {v0 v1 v2 : Value} (h : A.cell? p0 = some v0 ∧ A.cell? p1 = some v1 ∧ A.cell? p2 = some v2) (hb : Below A.heap.size A B) : B.cell? p0 = some v0 ∧ B.cell? p1 = some v1 ∧ B.cell? p2 = some v2 :=
  ⟨(hb.cell (World.block_lt_of_cell? A p0 h.1)).trans h.1, (hb.cell (World.block_lt_of_cell? A p1 h.2.1)).trans h.2.1, (hb.cell (World.block_lt_of_cell? A p2 h.2.2)).trans h.2.2⟩
theorem cpSa {A : World} {o : Obj} {p0 p1 p2 : Addr} {v0 v1 v2 : Value} (h : A.cell? p0 = some v0 ∧ A.cell? p1 = some v1 ∧ A.cell? p2 = some v2) : (A.alloc o).cell? p0 = some v0 ∧ (A.alloc o).cell? p1 = some v1 ∧ (A.alloc o).cell? p2 = some v2 :=
  cpSb h ((Below.refl _ A).alloc (Nat.le_refl _) o)
theorem cpSg {A C : World} {row : Option Nat} {B b i j k : Nat} {v0 v1 v2 : Value} (h : A.cell? ⟨b, i, none⟩ = some v0 ∧ A.cell? ⟨B, j, none⟩ = some v1 ∧ A.cell? ⟨B, k, none⟩ = some v2) (hg : A.grownBy C row) (h1 : b < A.heap.size) (h2 : B < A.heap.size)
    (n1 : some b ≠ row) (n2 : some B ≠ row) : C.cell? ⟨b, i, none⟩ = some v0 ∧ C.cell? ⟨B, j, none⟩ = some v1 ∧ C.cell? ⟨B, k, none⟩ = some v2 :=
  ⟨(hg.cell_far _ h1 n1).trans h.1, (hg.cell_far _ h2 n2).trans h.2.1, (hg.cell_far _ h2 n2).trans h.2.2⟩
theorem two_news (w : World) (x y : Value) (t : TypeId) : ∀ (j : Nat) (u : Value), [x, y][j]? = some u → (w.alloc (.cells #[x, y] t)).cell? ((⟨w.heap.size, 0, none⟩ : Addr).add j) = some u :=
  fun j u h => by
    have := World.news_of_block (World.alloc_heap_new w (.cells #[x, y] t)) j u h
    exact this
theorem two_one (x y : List UInt8) : ∀ u ∈ [Value.string ⟨x.toArray⟩, Value.string ⟨y.toArray⟩], u.oneCell' = true := by simp [Value.oneCell']

theorem cp_kept {W1 wr w1 w2 w3 : World} {Bc base : Nat} {o o2 : Obj} {e : TypeId} {sz : Nat} {v : Value} {m : Nat} {xs : List Value} (ho : wr.ownsRow base e sz v m xs) (hb1 : Below (wr.alloc o).drew.heap.size (wr.alloc o).drew w1) (hb2 : Below w1.heap.size w1 w2) (hg : (w2.alloc o2).grownBy w3 v.ownBlock) :
    Keeps (fun j => some j ≠ v.ownBlock) wr w3 :=
  ((((Keeps.refl _ wr).alloc o).drew.trans (Keeps.of_below hb1 fun _ h _ => h)).trans (Keeps.of_below hb2 fun _ h _ => h)).trans (((Keeps.refl _ w2).alloc o2).trans (Keeps.of_grown hg fun r h1 h2 => h2 h1.symm))
theorem cp_kept1 {wr w1 w3 : World} {o2 : Obj} {v : Value} (hb1 : Below wr.drew.heap.size wr.drew w1) (hg : (w1.alloc o2).grownBy w3 v.ownBlock) : Keeps (fun j => some j ≠ v.ownBlock) wr w3 :=
  ((Keeps.refl _ wr).drew.trans (Keeps.of_below hb1 fun _ h _ => h)).trans (((Keeps.refl _ w1).alloc o2).trans (Keeps.of_grown hg fun r h1 h2 => h2 h1.symm))
theorem cp_chain {W1 wr w3 : World} {Bc : Nat} {e : TypeId} {sz : Nat} {v : Value} {m : Nat} {xs : List Value} (hk : Keeps (fun j => j ≠ Bc) W1 wr) (ho : wr.ownsRow W1.heap.size e sz v m xs) (h3 : Keeps (fun j => some j ≠ v.ownBlock) wr w3) (p : Addr) (hp : p.block = Bc) (y : Value) : Keeps (fun j => j ≠ Bc) W1 (w3.setCell p y) := by
  have a1 : Keeps (fun j => j ≠ Bc ∧ j < W1.heap.size) W1 wr := hk.mono fun _ _ h => h.1
  have a2 : Keeps (fun j => j ≠ Bc ∧ j < W1.heap.size) wr w3 := h3.mono fun j _ h e => by have := (ho.lt j e.symm).1; omega
  exact ((a1.trans a2).setCell (p := p) (.inr fun h => h.1 hp) y).mono fun j hj h => ⟨h, hj⟩
theorem fcells_next (fs : List (List UInt8 × List UInt8)) {q : Nat} (hq : q < fs.length) {n v : List UInt8} (hn : (fs.getD q ([], [])).1 = n) (hv : (fs.getD q ([], [])).2 = v) : fcells (fs.take (q + 1)) = fcells (fs.take q) ++ [.string ⟨n.toArray⟩, .string ⟨v.toArray⟩] := by
  rw [take_succ_getD (d := ([], [])) hq, ← hn, ← hv]
  simp [fcells]
theorem wcells_next (ws : List (List UInt8)) {q : Nat} (hq : q < ws.length) {n : List UInt8} (hn : ws.getD q [] = n) : wcells (ws.take (q + 1)) = wcells (ws.take q) ++ [.string ⟨n.toArray⟩] := by
  rw [take_succ_getD (d := []) hq, ← hn]
  simp [wcells]
theorem CpF.step {W1 wr w3 : World} {Bc : Nat} {k x : Int} {s : List UInt8} {fs : List (List UInt8 × List UInt8)} {q : Nat} {a : Option Addr} {c : Nat} {n v : List UInt8} {g cap : Nat} (hBc : Bc < W1.heap.size) (hq : q < fs.length) (hn : (fs.getD q ([], [])).1 = n) (hv : (fs.getD q ([], [])).2 = v)
    (hk : Keeps (fun j => j ≠ Bc) W1 wr) (ho : wr.ownsRow W1.heap.size 87 2 (.slice a q c) q (fcells (fs.take q))) (h3 : Keeps (fun j => some j ≠ (Value.slice a q c).ownBlock) wr w3) (hx : ItBox w3 Bc k s a q c none 0 0 x)
    (hown : w3.ownsRow W1.heap.size 87 2 (.slice (some ⟨g, 0, none⟩) (q + 1) cap) (q + 1) (fcells (fs.take q) ++ [.string ⟨n.toArray⟩, .string ⟨v.toArray⟩])) :
    CpF W1 Bc k s x fs (q + 1) (w3.setCell ⟨Bc, 2, none⟩ (.slice (some ⟨g, 0, none⟩) (q + 1) cap)) := by
  refine ⟨_, _, hx.set2 _ _ _, ?_, cp_chain hk ho h3 _ rfl _⟩
  rw [fcells_next fs hq hn hv]
  exact owns_kept (S := fun j => j ≠ Bc) hown ((Keeps.refl _ w3).setCell (.inr fun h => h rfl) _) fun g hg => by have := (hown.lt g hg).1; omega
theorem CpL.step {W1 wr w3 : World} {Bc : Nat} {k x : Int} {s : List UInt8} {aF : Option Addr} {nF cF : Nat} {ws : List (List UInt8)} {q : Nat} {a : Option Addr} {c : Nat} {n : List UInt8} {g cap : Nat} (hBc : Bc < W1.heap.size) (hq : q < ws.length) (hn : ws.getD q [] = n)
    (hk : Keeps (fun j => j ≠ Bc) W1 wr) (ho : wr.ownsRow W1.heap.size 9 1 (.slice a q c) q (wcells (ws.take q))) (h3 : Keeps (fun j => some j ≠ (Value.slice a q c).ownBlock) wr w3) (hx : ItBox w3 Bc k s aF nF cF a q c x)
    (hown : w3.ownsRow W1.heap.size 9 1 (.slice (some ⟨g, 0, none⟩) (q + 1) cap) (q + 1) (wcells (ws.take q) ++ [.string ⟨n.toArray⟩])) :
    CpL W1 Bc k s aF nF cF x ws (q + 1) (w3.setCell ⟨Bc, 3, none⟩ (.slice (some ⟨g, 0, none⟩) (q + 1) cap)) := by
  refine ⟨_, _, hx.set3 _ _ _, ?_, cp_chain hk ho h3 _ rfl _⟩
  rw [wcells_next ws hq hn]
  exact owns_kept (S := fun j => j ≠ Bc) hown ((Keeps.refl _ w3).setCell (.inr fun h => h rfl) _) fun g hg => by have := (hown.lt g hg).1; omega
theorem ItBox.set1 {w : World} {B : Nat} {k : Int} {s : List UInt8} {aF : Option Addr} {nF cF : Nat} {aL : Option Addr} {nL cL : Nat} {x : Int} (h : ItBox w B k s aF nF cF aL nL cL x) (s' : List UInt8) :
    ItBox (w.setCell ⟨B, 1, none⟩ (.string ⟨s'.toArray⟩)) B k s' aF nF cF aL nL cL x := by
  unfold ItBox at h ⊢
  simp [World.setCell, Array.getElem?_modify, h]
end Go.Proofs.Ytihleddhjmejoaa
namespace Go.Proofs.Ytihleddhjmejoaa
open Go.RowKit Go.Shelf
set_option linter.unusedVariables false
set_option linter.unusedSimpArgs false

/-- a copy: the same parts, in rows of its own. -/
def CopyOut (k x : Int) (s : List UInt8) (fs : List (List UInt8 × List UInt8)) (ws : List (List UInt8)) (w : World) (e : Ending) (W : World) : Prop :=
  ∃ aF cF aL cL, e = .returned (itv k s aF fs.length cF aL ws.length cL x) ∧ W.ownsRow w.heap.size 87 2 (.slice aF fs.length cF) fs.length (fcells fs) ∧ W.ownsRow w.heap.size 9 1 (.slice aL ws.length cL) ws.length (wcells ws) ∧
    (∀ g, (Value.slice aF fs.length cF).ownBlock = some g → (Value.slice aL ws.length cL).ownBlock ≠ some g) ∧ Below w.heap.size w W

/-- the round's blocks, as they stand in the loops. -/
def CpInv (W2 : World) (Bc : Nat) (k x : Int) (s : List UInt8) (aF : Option Addr) (nF cF : Nat) (aL : Option Addr) (nL cL : Nat) (fs : List (List UInt8 × List UInt8)) (ws : List (List UInt8)) (W : World) : Prop :=
  ItBox W Bc k s aF nF cF aL nL cL x ∧ W.ownsRow W2.heap.size 87 2 (.slice aF nF cF) fs.length (fcells fs) ∧ W.ownsRow W2.heap.size 9 1 (.slice aL nL cL) ws.length (wcells ws) ∧
    (∀ g, (Value.slice aF nF cF).ownBlock = some g → (Value.slice aL nL cL).ownBlock ≠ some g) ∧ Keeps (fun j => j ≠ Bc) W2 W

theorem copy_out {w W0 wc wr w4 : World} {Bc : Nat} {k x : Int} {s : List UInt8} {fs : List (List UInt8 × List UInt8)} {ws : List (List UInt8)} {a a2 : Option Addr} {c c2 : Nat} (hz : w.heap.size + 2 ≤ W0.heap.size) (hBc : W0.heap.size ≤ Bc) (hb0 : Below w.heap.size w W0) (hbw : Below W0.heap.size W0 wc) (hBc2 : Bc < wc.heap.size)
    (ho : wr.ownsRow wc.heap.size 87 2 (.slice a fs.length c) fs.length (fcells fs)) (hk : Keeps (fun j => j ≠ Bc) wc wr) (ho2 : w4.ownsRow wr.heap.size 9 1 (.slice a2 ws.length c2) ws.length (wcells ws)) (hk2 : Keeps (fun j => j ≠ Bc) wr w4) (Wend : World) (hW : Wend = stIt w4 (w.heap.size + 1) k s a fs.length c a2 ws.length c2 x) :
    CopyOut k x s fs ws w (.returned (itv k s a fs.length c a2 ws.length c2 x)) Wend := by
  have hzw := hbw.size
  have hk3 : Keeps (fun j => j ≠ w.heap.size + 1) w4 Wend := by rw [hW]; exact (Keeps.refl _ w4).stIt (.inr fun h => h rfl) k s a fs.length c a2 ws.length c2 x
  refine ⟨a, c, a2, c2, rfl, ?_, ?_, ?_, ?_⟩
  · refine owns_base (owns_kept (S := fun j => j ≠ w.heap.size + 1) (owns_kept (S := fun j => j ≠ Bc) ho hk2 ?_) hk3 ?_) (by omega)
    · intro g hg; have := (ho.lt g hg).1; omega
    · intro g hg; have := (ho.lt g hg).1; omega
  · have := hk.size
    refine owns_base (owns_kept (S := fun j => j ≠ w.heap.size + 1) ho2 hk3 ?_) (by omega)
    intro g hg; have := (ho2.lt g hg).1; omega
  · intro g h1 h2
    have := (ho.lt g h1).2
    have := (ho2.lt g h2).1
    omega
  · have b1 := hk.below (n := w.heap.size) (by omega) fun j hj => by omega
    have := hk.size
    have b2 := hk2.below (n := w.heap.size) (by omega) fun j hj => by omega
    have := hk2.size
    have b3 := hk3.below (n := w.heap.size) (by omega) fun j hj => by omega
    exact (((hb0.trans (hbw.mono (by omega))).trans b1).trans b2).trans b3

theorem owns_far {w : World} {base : Nat} {e : TypeId} {sz m c n B : Nat} {xs : List Value} {a : Option Addr} (h : w.ownsRow base e sz (.slice a m c) n xs) (hB : B < base) : ∀ g o, a = some ⟨g, o, none⟩ → B < g := by
  obtain ⟨_, hc⟩ := h
  rcases hc with ⟨h1, _⟩ | ⟨g', cap, cur, h1, hb, _⟩
  · injection h1 with h1
    intro g o e
    rw [h1] at e
    cases e
  · injection h1 with h1
    intro g o e
    rw [h1] at e
    injection e with e
    injection e with e
    omega
theorem owns_none {w : World} {base : Nat} {e : TypeId} {sz m c n : Nat} {xs : List Value} {a : Option Addr} (h : w.ownsRow base e sz (.slice a m c) n xs) : a = none → c = 0 := by
  obtain ⟨_, hc⟩ := h
  rcases hc with ⟨h1, _⟩ | ⟨g', cap, cur, h1, _⟩
  · injection h1 with h1 h2 h3
    exact fun _ => h3
  · injection h1 with h1
    intro e
    rw [e] at h1
    cases h1
theorem cell_next9 {A B : World} {p : Addr} {v : Value} (h : A.cell? p = some v) (hb : Below A.heap.size A B) : B.cell? p = some v := (hb.cell (World.block_lt_of_cell? A p h)).trans h
theorem cell2_next {A B : World} {p p2 : Addr} {v v2 : Value} (h : A.cell? p = some v ∧ A.cell? p2 = some v2) (hb : Below A.heap.size A B) : B.cell? p = some v ∧ B.cell? p2 = some v2 := ⟨cell_next9 h.1 hb, cell_next9 h.2 hb⟩
theorem stIt_far {w : World} {B g : Nat} (h : g ≠ B) (k : Int) (s : List UInt8) (aF : Option Addr) (nF cF : Nat) (aL : Option Addr) (nL cL : Nat) (x : Int) : (stIt w B k s aF nF cF aL nL cL x).heap[g]? = w.heap[g]? := by
  unfold stIt
  rw [Below.heap_setCell _ _ _ _ h, Below.heap_setCell _ _ _ _ h, Below.heap_setCell _ _ _ _ h, Below.heap_setCell _ _ _ _ h, Below.heap_setCell _ _ _ _ h]
end Go.Proofs.Ytihleddhjmejoaa
