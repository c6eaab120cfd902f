/- The contract of item.Copy. -/
import Derived.Test.YtdnonginlbjcoaaItClone
import Derived.Deep.RegionHeld3
import Derived.Deep.AppendLies
import Derived.Deep.Cut
import Derived.Deep.DeepCutAuto
import Derived.Test.YtdnonginlbjcoaaHeldL
import Derived.BigQuiet
namespace Go.Proofs.Ytdnonginlbjcoaa
set_option linter.unusedVariables false
open Go.RowKit Go.Shelf

/-- an item is stored into an item's box. -/
def stIt (w : World) (B : Nat) (k : Int) (s : List UInt8) (aF : Option Addr) (nF cF : Nat) (aL : Option Addr) (nL cL : Nat) (x : Int) : World :=
  ((((w.setCell ⟨B, 0, none⟩ (.int .i64 k)).setCell ⟨B, 1, none⟩ (.string ⟨s.toArray⟩)).setCell ⟨B, 2, none⟩ (.slice aF nF cF)).setCell ⟨B, 3, none⟩ (.slice aL nL cL)).setCell ⟨B, 4, none⟩ (.int .i64 x)

theorem ItBox.store {w : World} {B : Nat} {k0 : Int} {s0 : List UInt8} {a0 : Option Addr} {n0 c0 : Nat} {b0 : Option Addr} {m0 d0 : Nat} {x0 : Int} (h : ItBox w B k0 s0 a0 n0 c0 b0 m0 d0 x0) (k : Int) (s : List UInt8) (aF : Option Addr) (nF cF : Nat) (aL : Option Addr) (nL cL : Nat) (x : Int) :
    ItBox (stIt w B k s aF nF cF aL nL cL x) B k s aF nF cF aL nL cL x := by
  unfold ItBox at h ⊢
  simp [stIt, World.setCell, Array.getElem?_modify, h]
theorem Keeps.stIt {S : Nat → Prop} {A W : World} (h : Keeps S A W) {B : Nat} (hB : A.heap.size ≤ B ∨ ¬ S B) (k : Int) (s : List UInt8) (aF : Option Addr) (nF cF : Nat) (aL : Option Addr) (nL cL : Nat) (x : Int) : Keeps S A (stIt W B k s aF nF cF aL nL cL x) :=
  ((((h.setCell (p := ⟨B, 0, none⟩) hB _).setCell (p := ⟨B, 1, none⟩) hB _).setCell (p := ⟨B, 2, none⟩) hB _).setCell (p := ⟨B, 3, none⟩) hB _).setCell (p := ⟨B, 4, none⟩) hB _
theorem ItBox.free {w : World} {B : Nat} {k : Int} {s : List UInt8} {aF : Option Addr} {nF cF : Nat} {aL : Option Addr} {nL cL : Nat} {x : Int} (h : ItBox w B k s aF nF cF aL nL cL x) :
    w.frozen? ⟨B, 0, none⟩ = false ∧ w.frozen? ⟨B, 1, none⟩ = false ∧ w.frozen? ⟨B, 2, none⟩ = false ∧ w.frozen? ⟨B, 3, none⟩ = false ∧ w.frozen? ⟨B, 4, none⟩ = false := by
  unfold ItBox at h
  simp [World.frozen?, h]
theorem ItBox.set2 {w : World} {B : Nat} {k : Int} {s : List UInt8} {aF : Option Addr} {nF cF : Nat} {aL : Option Addr} {nL cL : Nat} {x : Int} (h : ItBox w B k s aF nF cF aL nL cL x) (a : Option Addr) (n c : Nat) :
    ItBox (w.setCell ⟨B, 2, none⟩ (.slice a n c)) B k s a n c aL nL cL x := by
  unfold ItBox at h ⊢
  simp [World.setCell, Array.getElem?_modify, h]
theorem ItBox.set3 {w : World} {B : Nat} {k : Int} {s : List UInt8} {aF : Option Addr} {nF cF : Nat} {aL : Option Addr} {nL cL : Nat} {x : Int} (h : ItBox w B k s aF nF cF aL nL cL x) (a : Option Addr) (n c : Nat) :
    ItBox (w.setCell ⟨B, 3, none⟩ (.slice a n c)) B k s aF nF cF a n c x := by
  unfold ItBox at h ⊢
  simp [World.setCell, Array.getElem?_modify, h]
theorem ItBox.keep {w w' : World} {S : Nat → Prop} {B : Nat} {k : Int} {s : List UInt8} {aF : Option Addr} {nF cF : Nat} {aL : Option Addr} {nL cL : Nat} {x : Int} (h : ItBox w B k s aF nF cF aL nL cL x) (hk : Keeps S w w') (hS : S B) : ItBox w' B k s aF nF cF aL nL cL x := hk.heap h hS

theorem loadVarI {w : World} {B : Nat} {k : Int} {s : List UInt8} {aF : Option Addr} {nF cF : Nat} {aL : Option Addr} {nL cL : Nat} {x : Int} (h : ItBox w B k s aF nF cF aL nL cL x) : (loadVar 25 ⟨B, 0, none⟩).run Try.prog w = .ok (itv k s aF nF cF aL nL cL x) w := by
  obtain ⟨h0, h1, h2, h3, h4⟩ := h.at
  simp [loadVar, go_sem, h0, h1, h2, h3, h4, itv]

/-- a copy: the same parts, in rows of its own. -/
def CopyOut (k x : Int) (s : List UInt8) (fs : List (List UInt8 × List UInt8)) (ws : List (List UInt8)) (w : World) (e : Ending) (W : World) : Prop :=
  ∃ aF cF aL cL, e = .returned (itv k s aF fs.length cF aL ws.length cL x) ∧ W.ownsRow w.heap.size 37 2 (.slice aF fs.length cF) fs.length (fcells fs) ∧ W.ownsRow w.heap.size 9 1 (.slice aL ws.length cL) ws.length (wcells ws) ∧
    (∀ g, (Value.slice aF fs.length cF).ownBlock = some g → (Value.slice aL ws.length cL).ownBlock ≠ some g) ∧ Below w.heap.size w W

/-- the round's blocks, as they stand in the loops. -/
def CpInv (W2 : World) (Bc : Nat) (k x : Int) (s : List UInt8) (aF : Option Addr) (nF cF : Nat) (aL : Option Addr) (nL cL : Nat) (fs : List (List UInt8 × List UInt8)) (ws : List (List UInt8)) (W : World) : Prop :=
  ItBox W Bc k s aF nF cF aL nL cL x ∧ W.ownsRow W2.heap.size 37 2 (.slice aF nF cF) fs.length (fcells fs) ∧ W.ownsRow W2.heap.size 9 1 (.slice aL nL cL) ws.length (wcells ws) ∧
    (∀ g, (Value.slice aF nF cF).ownBlock = some g → (Value.slice aL nL cL).ownBlock ≠ some g) ∧ Keeps (fun j => j ≠ Bc) W2 W

theorem cp_old {W w1 : World} (hb : Below W.drew.heap.size W.drew w1) : Below W.heap.size W w1 := ((Below.refl _ W).drew).trans hb
theorem far5 {w : World} {B b o : Nat} (h : b ≠ B) (v0 v1 v2 v3 v4 : Value) : (((((w.setCell ⟨B, 0, none⟩ v0).setCell ⟨B, 1, none⟩ v1).setCell ⟨B, 2, none⟩ v2).setCell ⟨B, 3, none⟩ v3).setCell ⟨B, 4, none⟩ v4).cell? ⟨b, o, none⟩ = w.cell? ⟨b, o, none⟩ := by
  simp [World.setCell, World.cell?, Array.getElem?_modify, Ne.symm h]

theorem cp_new {W w1 : World} (hb : Below (W.alloc (.cells #[.int .i64 0, .string ⟨#[]⟩, .slice none 0 0, .slice none 0 0, .int .i64 0] 25)).drew.heap.size (W.alloc (.cells #[.int .i64 0, .string ⟨#[]⟩, .slice none 0 0, .slice none 0 0, .int .i64 0] 25)).drew w1) : Below W.heap.size W w1 ∧ ItBox w1 W.heap.size 0 [] none 0 0 none 0 0 0 :=
  ⟨(((Below.refl _ W).alloc (Nat.le_refl _) _).drew).trans (hb.mono (by simp [go_sem])), (hb.block _ (by simp [go_sem])).trans (ItBox.new W 0 [] none 0 0 none 0 0 0)⟩

/-- the copy's box, as the loops find it. -/
def CpAt (W0 : World) (k : Int) (s : List UInt8) (x : Int) (p : Value) (W1 : World) : Prop :=
  ∃ Bc, p = .pointer (some ⟨Bc, 0, none⟩) ∧ W0.heap.size ≤ Bc ∧ ItBox W1 Bc k s none 0 0 none 0 0 x ∧ Below W0.heap.size W0 W1

theorem cpAt_late {W0 w1 : World} {k : Int} {s : List UInt8} {x : Int} (hb : Below W0.heap.size W0 w1) : CpAt W0 k s x (.pointer (some ⟨w1.heap.size, 0, none⟩)) (w1.alloc (.cells #[.int .i64 k, .string ⟨s.toArray⟩, .slice none 0 0, .slice none 0 0, .int .i64 x] 25)) :=
  ⟨_, rfl, hb.size, ItBox.new w1 k s none 0 0 none 0 0 x, hb.alloc hb.size _⟩
theorem cpAt_early {W0 w1 : World} {k : Int} {s : List UInt8} {x : Int} (hb : Below W0.heap.size W0 w1) (hx : ItBox w1 W0.heap.size 0 [] none 0 0 none 0 0 0) : CpAt W0 k s x (.pointer (some ⟨W0.heap.size, 0, none⟩))
    (((((w1.setCell ⟨W0.heap.size, 0, none⟩ (.int .i64 k)).setCell ⟨W0.heap.size, 1, none⟩ (.string ⟨s.toArray⟩)).setCell ⟨W0.heap.size, 2, none⟩ (.slice none 0 0)).setCell ⟨W0.heap.size, 3, none⟩ (.slice none 0 0)).setCell ⟨W0.heap.size, 4, none⟩ (.int .i64 x)) :=
  ⟨_, rfl, Nat.le_refl _, hx.store k s none 0 0 none 0 0 x, ((((hb.setCell (p := ⟨W0.heap.size, 0, none⟩) (Nat.le_refl _) _).setCell (p := ⟨W0.heap.size, 1, none⟩) (Nat.le_refl _) _).setCell (p := ⟨W0.heap.size, 2, none⟩) (Nat.le_refl _) _).setCell (p := ⟨W0.heap.size, 3, none⟩) (Nat.le_refl _) _).setCell (p := ⟨W0.heap.size, 4, none⟩) (Nat.le_refl _) _⟩

/-- the first loop: so many fields lie in the copy. -/
def CpF (W1 : World) (Bc : Nat) (k : Int) (s : List UInt8) (x : Int) (fs : List (List UInt8 × List UInt8)) (q : Nat) (wr : World) : Prop :=
  ∃ a c, ItBox wr Bc k s a q c none 0 0 x ∧ wr.ownsRow W1.heap.size 37 2 (.slice a q c) q (fcells (fs.take q)) ∧ Keeps (fun j => j ≠ Bc) W1 wr
/-- .. the second one: so many words. -/
def CpL (W2 : World) (Bc : Nat) (k : Int) (s : List UInt8) (aF : Option Addr) (nF cF : Nat) (x : Int) (ws : List (List UInt8)) (q : Nat) (wr : World) : Prop :=
  ∃ a c, ItBox wr Bc k s aF nF cF a q c x ∧ wr.ownsRow W2.heap.size 9 1 (.slice a q c) q (wcells (ws.take q)) ∧ Keeps (fun j => j ≠ Bc) W2 wr

theorem cpS0 {wr : World} {p : Addr} {v0 : Value} {n v : List UInt8} (h : wr.cell? p = some v0) :
    (wr.alloc (.cells #[.string ⟨n.toArray⟩, .string ⟨v.toArray⟩] 37)).drew.cell? p = some v0 ∧ (wr.alloc (.cells #[.string ⟨n.toArray⟩, .string ⟨v.toArray⟩] 37)).drew.cell? ⟨wr.heap.size, 0, none⟩ = some (.string ⟨n.toArray⟩) ∧ (wr.alloc (.cells #[.string ⟨n.toArray⟩, .string ⟨v.toArray⟩] 37)).drew.cell? ⟨wr.heap.size, 1, none⟩ = some (.string ⟨v.toArray⟩) := by
  refine ⟨?_, ?_, ?_⟩
  · rw [World.cell?_drew, World.cell?_alloc_lt _ _ _ (World.block_lt_of_cell? wr p h)]
    exact h
  · exact World.news_of_block (World.alloc_heap_new wr _) 0 _ rfl
  · exact World.news_of_block (World.alloc_heap_new wr _) 1 _ rfl
theorem cpSb {A B : World} {p0 p1 p2 : Addr} {v0 v1 v2 : Value} (h : A.cell? p0 = some v0 ∧ A.cell? p1 = some v1 ∧ A.cell? p2 = some v2) (hb : Below A.heap.size A B) : B.cell? p0 = some v0 ∧ B.cell? p1 = some v1 ∧ B.cell? p2 = some v2 :=
  ⟨(hb.cell (World.block_lt_of_cell? A p0 h.1)).trans h.1, (hb.cell (World.block_lt_of_cell? A p1 h.2.1)).trans h.2.1, (hb.cell (World.block_lt_of_cell? A p2 h.2.2)).trans h.2.2⟩
theorem cpSa {A : World} {o : Obj} {p0 p1 p2 : Addr} {v0 v1 v2 : Value} (h : A.cell? p0 = some v0 ∧ A.cell? p1 = some v1 ∧ A.cell? p2 = some v2) : (A.alloc o).cell? p0 = some v0 ∧ (A.alloc o).cell? p1 = some v1 ∧ (A.alloc o).cell? p2 = some v2 :=
  cpSb h ((Below.refl _ A).alloc (Nat.le_refl _) o)
theorem cpSg {A C : World} {row : Option Nat} {B b i j k : Nat} {v0 v1 v2 : Value} (h : A.cell? ⟨b, i, none⟩ = some v0 ∧ A.cell? ⟨B, j, none⟩ = some v1 ∧ A.cell? ⟨B, k, none⟩ = some v2) (hg : A.grownBy C row) (h1 : b < A.heap.size) (h2 : B < A.heap.size)
    (n1 : some b ≠ row) (n2 : some B ≠ row) : C.cell? ⟨b, i, none⟩ = some v0 ∧ C.cell? ⟨B, j, none⟩ = some v1 ∧ C.cell? ⟨B, k, none⟩ = some v2 :=
  ⟨(hg.cell_far _ h1 n1).trans h.1, (hg.cell_far _ h2 n2).trans h.2.1, (hg.cell_far _ h2 n2).trans h.2.2⟩
theorem two_news (w : World) (x y : Value) (t : TypeId) : ∀ (j : Nat) (u : Value), [x, y][j]? = some u → (w.alloc (.cells #[x, y] t)).cell? ((⟨w.heap.size, 0, none⟩ : Addr).add j) = some u :=
  fun j u h => by
    have := World.news_of_block (World.alloc_heap_new w (.cells #[x, y] t)) j u h
    exact this
theorem two_one (x y : List UInt8) : ∀ u ∈ [Value.string ⟨x.toArray⟩, Value.string ⟨y.toArray⟩], u.oneCell' = true := by simp [Value.oneCell']

theorem cp_kept {W1 wr w1 w2 w3 : World} {Bc base : Nat} {o o2 : Obj} {e : TypeId} {sz : Nat} {v : Value} {m : Nat} {xs : List Value} (ho : wr.ownsRow base e sz v m xs) (hb1 : Below (wr.alloc o).drew.heap.size (wr.alloc o).drew w1) (hb2 : Below w1.heap.size w1 w2) (hg : (w2.alloc o2).grownBy w3 v.ownBlock) :
    Keeps (fun j => some j ≠ v.ownBlock) wr w3 :=
  ((((Keeps.refl _ wr).alloc o).drew.trans (Keeps.of_below hb1 fun _ h _ => h)).trans (Keeps.of_below hb2 fun _ h _ => h)).trans (((Keeps.refl _ w2).alloc o2).trans (Keeps.of_grown hg fun r h1 h2 => h2 h1.symm))
theorem cp_kept1 {wr w1 w3 : World} {o2 : Obj} {v : Value} (hb1 : Below wr.drew.heap.size wr.drew w1) (hg : (w1.alloc o2).grownBy w3 v.ownBlock) : Keeps (fun j => some j ≠ v.ownBlock) wr w3 :=
  ((Keeps.refl _ wr).drew.trans (Keeps.of_below hb1 fun _ h _ => h)).trans (((Keeps.refl _ w1).alloc o2).trans (Keeps.of_grown hg fun r h1 h2 => h2 h1.symm))
theorem cp_chain {W1 wr w3 : World} {Bc : Nat} {e : TypeId} {sz : Nat} {v : Value} {m : Nat} {xs : List Value} (hk : Keeps (fun j => j ≠ Bc) W1 wr) (ho : wr.ownsRow W1.heap.size e sz v m xs) (h3 : Keeps (fun j => some j ≠ v.ownBlock) wr w3) (p : Addr) (hp : p.block = Bc) (y : Value) : Keeps (fun j => j ≠ Bc) W1 (w3.setCell p y) := by
  have a1 : Keeps (fun j => j ≠ Bc ∧ j < W1.heap.size) W1 wr := hk.mono fun _ _ h => h.1
  have a2 : Keeps (fun j => j ≠ Bc ∧ j < W1.heap.size) wr w3 := h3.mono fun j _ h e => by have := (ho.lt j e.symm).1; omega
  exact ((a1.trans a2).setCell (p := p) (.inr fun h => h.1 hp) y).mono fun j hj h => ⟨h, hj⟩
theorem fcells_next (fs : List (List UInt8 × List UInt8)) {q : Nat} (hq : q < fs.length) {n v : List UInt8} (hn : (fs.getD q ([], [])).1 = n) (hv : (fs.getD q ([], [])).2 = v) : fcells (fs.take (q + 1)) = fcells (fs.take q) ++ [.string ⟨n.toArray⟩, .string ⟨v.toArray⟩] := by
  rw [take_succ_getD (d := ([], [])) hq, ← hn, ← hv]
  simp [fcells]
theorem wcells_next (ws : List (List UInt8)) {q : Nat} (hq : q < ws.length) {n : List UInt8} (hn : ws.getD q [] = n) : wcells (ws.take (q + 1)) = wcells (ws.take q) ++ [.string ⟨n.toArray⟩] := by
  rw [take_succ_getD (d := []) hq, ← hn]
  simp [wcells]
theorem CpF.step {W1 wr w3 : World} {Bc : Nat} {k x : Int} {s : List UInt8} {fs : List (List UInt8 × List UInt8)} {q : Nat} {a : Option Addr} {c : Nat} {n v : List UInt8} {g cap : Nat} (hBc : Bc < W1.heap.size) (hq : q < fs.length) (hn : (fs.getD q ([], [])).1 = n) (hv : (fs.getD q ([], [])).2 = v)
    (hk : Keeps (fun j => j ≠ Bc) W1 wr) (ho : wr.ownsRow W1.heap.size 37 2 (.slice a q c) q (fcells (fs.take q))) (h3 : Keeps (fun j => some j ≠ (Value.slice a q c).ownBlock) wr w3) (hx : ItBox w3 Bc k s a q c none 0 0 x)
    (hown : w3.ownsRow W1.heap.size 37 2 (.slice (some ⟨g, 0, none⟩) (q + 1) cap) (q + 1) (fcells (fs.take q) ++ [.string ⟨n.toArray⟩, .string ⟨v.toArray⟩])) :
    CpF W1 Bc k s x fs (q + 1) (w3.setCell ⟨Bc, 2, none⟩ (.slice (some ⟨g, 0, none⟩) (q + 1) cap)) := by
  refine ⟨_, _, hx.set2 _ _ _, ?_, cp_chain hk ho h3 _ rfl _⟩
  rw [fcells_next fs hq hn hv]
  exact owns_kept (S := fun j => j ≠ Bc) hown ((Keeps.refl _ w3).setCell (.inr fun h => h rfl) _) fun g hg => by have := (hown.lt g hg).1; omega
theorem CpL.step {W1 wr w3 : World} {Bc : Nat} {k x : Int} {s : List UInt8} {aF : Option Addr} {nF cF : Nat} {ws : List (List UInt8)} {q : Nat} {a : Option Addr} {c : Nat} {n : List UInt8} {g cap : Nat} (hBc : Bc < W1.heap.size) (hq : q < ws.length) (hn : ws.getD q [] = n)
    (hk : Keeps (fun j => j ≠ Bc) W1 wr) (ho : wr.ownsRow W1.heap.size 9 1 (.slice a q c) q (wcells (ws.take q))) (h3 : Keeps (fun j => some j ≠ (Value.slice a q c).ownBlock) wr w3) (hx : ItBox w3 Bc k s aF nF cF a q c x)
    (hown : w3.ownsRow W1.heap.size 9 1 (.slice (some ⟨g, 0, none⟩) (q + 1) cap) (q + 1) (wcells (ws.take q) ++ [.string ⟨n.toArray⟩])) :
    CpL W1 Bc k s aF nF cF x ws (q + 1) (w3.setCell ⟨Bc, 3, none⟩ (.slice (some ⟨g, 0, none⟩) (q + 1) cap)) := by
  refine ⟨_, _, hx.set3 _ _ _, ?_, cp_chain hk ho h3 _ rfl _⟩
  rw [wcells_next ws hq hn]
  exact owns_kept (S := fun j => j ≠ Bc) hown ((Keeps.refl _ w3).setCell (.inr fun h => h rfl) _) fun g hg => by have := (hown.lt g hg).1; omega
theorem copy_out {w W0 wc wr w4 : World} {Bc : Nat} {k x : Int} {s : List UInt8} {fs : List (List UInt8 × List UInt8)} {ws : List (List UInt8)} {a a2 : Option Addr} {c c2 : Nat} (hz : w.heap.size + 2 ≤ W0.heap.size) (hBc : W0.heap.size ≤ Bc) (hb0 : Below w.heap.size w W0) (hbw : Below W0.heap.size W0 wc) (hBc2 : Bc < wc.heap.size)
    (ho : wr.ownsRow wc.heap.size 37 2 (.slice a fs.length c) fs.length (fcells fs)) (hk : Keeps (fun j => j ≠ Bc) wc wr) (ho2 : w4.ownsRow wr.heap.size 9 1 (.slice a2 ws.length c2) ws.length (wcells ws)) (hk2 : Keeps (fun j => j ≠ Bc) wr w4) (Wend : World) (hW : Wend = stIt w4 (w.heap.size + 1) k s a fs.length c a2 ws.length c2 x) :
    CopyOut k x s fs ws w (.returned (itv k s a fs.length c a2 ws.length c2 x)) Wend := by
  have hzw := hbw.size
  have hk3 : Keeps (fun j => j ≠ w.heap.size + 1) w4 Wend := by rw [hW]; exact (Keeps.refl _ w4).stIt (.inr fun h => h rfl) k s a fs.length c a2 ws.length c2 x
  refine ⟨a, c, a2, c2, rfl, ?_, ?_, ?_, ?_⟩
  · refine owns_base (owns_kept (S := fun j => j ≠ w.heap.size + 1) (owns_kept (S := fun j => j ≠ Bc) ho hk2 ?_) hk3 ?_) (by omega)
    · intro g hg; have := (ho.lt g hg).1; omega
    · intro g hg; have := (ho.lt g hg).1; omega
  · have := hk.size
    refine owns_base (owns_kept (S := fun j => j ≠ w.heap.size + 1) ho2 hk3 ?_) (by omega)
    intro g hg; have := (ho2.lt g hg).1; omega
  · intro g h1 h2
    have := (ho.lt g h1).2
    have := (ho2.lt g h2).1
    omega
  · have b1 := hk.below (n := w.heap.size) (by omega) fun j hj => by omega
    have := hk.size
    have b2 := hk2.below (n := w.heap.size) (by omega) fun j hj => by omega
    have := hk2.size
    have b3 := hk3.below (n := w.heap.size) (by omega) fun j hj => by omega
    exact (((hb0.trans (hbw.mono (by omega))).trans b1).trans b2).trans b3

set_option linter.unusedSimpArgs false in
set_option maxRecDepth 100000 in
set_option maxHeartbeats 8000000 in
theorem copy_any (k x : Int) (s : List UInt8) (aF : Option Addr) (cF : Nat) (fs : List (List UInt8 × List UInt8)) (aL : Option Addr) (cL : Nat) (ws : List (List UInt8)) (w : World) (hF : Fds w aF cF fs) (hL : Wds w aL cL ws)
    (hlF : fs.length ≤ 1000000) (hlL : ws.length ≤ 1000000) (hs : s.length ≤ 1000000) (hfs : ∀ p ∈ fs, p.1.length ≤ 1000000 ∧ p.2.length ≤ 1000000) (hws : ∀ t ∈ ws, t.length ≤ 1000000) :
    Calls Try.prog 18 #[itv k s aF fs.length cF aL ws.length cL x] w (CopyOut k x s fs ws w) := by
  have hc := fun W => clone_any s W (by omega)
  have HC := Lib.hid hc
  have HF := Lib.hid hF
  have HL := Lib.hid hL
  have HFS := Lib.hid hfs
  have HWS := Lib.hid hws
  obtain ⟨W0, hW0⟩ : ∃ W0, (w.alloc (itc k s aF fs.length cF aL ws.length cL x)).alloc (itc 0 [] none 0 0 none 0 0 0) = W0 := ⟨_, rfl⟩
  have hbx : ItBox W0 w.heap.size k s aF fs.length cF aL ws.length cL x := by
    rw [← hW0]
    exact ((Keeps.refl (fun _ => True) _).alloc _).heap (ItBox.new w k s aF fs.length cF aL ws.length cL x) trivial
  have hres : ItBox W0 (w.heap.size + 1) 0 [] none 0 0 none 0 0 0 := by
    rw [← hW0]
    have := ItBox.new (w.alloc (itc k s aF fs.length cF aL ws.length cL x)) 0 [] none 0 0 none 0 0 0
    rwa [World.size_alloc] at this
  have hB0 : Below w.heap.size w W0 := by rw [← hW0]; exact ((Below.refl _ w).alloc (Nat.le_refl _) _).alloc (by simp) _
  have hz0 : w.heap.size + 2 ≤ W0.heap.size := by rw [← hW0]; simp
  obtain ⟨c0, c1, -, -, c4⟩ := hbx.at
  have HW0 := Lib.hid hW0
  have HB0 := Lib.hid hB0
  have HBX := Lib.hid hbx
  have HRS := Lib.hid hres
  clear hc hF hL hfs hws hW0 hbx hres hB0
  obtain ⟨iF, hiF, hiF0, hiF1, hiF2⟩ := info_parts infoF
  obtain ⟨iS, hiS, hiS0, hiS1, hiS2⟩ := info_parts info9
  unfold itv
  go_enter Try.func18, Try.ntmps18
  go_upto_region 1 with (fail)
  rw [show (w.alloc (.cells #[.int .i64 k, .string ⟨s.toArray⟩, .slice aF fs.length cF, .slice aL ws.length cL, .int .i64 x] 25)).alloc (.cells #[.int .i64 0, .string ⟨#[]⟩, .slice none 0 0, .slice none 0 0, .int .i64 0] 25) = W0 from HW0.out]
  clear HW0
  go_cut [3] (fun p W1 => CpAt W0 k s x p W1)
  case first =>
    go_region_held3 (fun w' => w'.cell? ⟨w.heap.size, 0, none⟩ = some (.int .i64 k) ∧ w'.cell? ⟨w.heap.size, 1, none⟩ = some (.string ⟨s.toArray⟩) ∧ w'.cell? ⟨w.heap.size, 4, none⟩ = some (.int .i64 x))
      (first
        | (with_reducible exact ⟨q0, q1, q4⟩)
        | (refine ⟨?_, ?_, ?_⟩ <;> (rw [far5 (by omega)]; assumption))
        | go_keep)
      (((with_reducible refine (HC.out _).mono ?_)
        rintro e w1 ⟨rfl, hb⟩
        first
          | (with_reducible have hB := cp_old (W := W0) hb
             have HB1 := Lib.hid hB
             have q0 : w1.cell? ⟨w.heap.size, 0, none⟩ = some (.int .i64 k) := (hB.cell (p := ⟨w.heap.size, 0, none⟩) (by simp; omega)).trans c0
             have q1 : w1.cell? ⟨w.heap.size, 1, none⟩ = some (.string ⟨s.toArray⟩) := (hB.cell (p := ⟨w.heap.size, 1, none⟩) (by simp; omega)).trans c1
             have q4 : w1.cell? ⟨w.heap.size, 4, none⟩ = some (.int .i64 x) := (hB.cell (p := ⟨w.heap.size, 4, none⟩) (by simp; omega)).trans c4
             clear hb hB)
          | (with_reducible have hB := cp_new (W := W0) hb
             have HB1 := Lib.hid hB.1
             have HX1 := Lib.hid hB.2
             have q0 : w1.cell? ⟨w.heap.size, 0, none⟩ = some (.int .i64 k) := (hB.1.cell (p := ⟨w.heap.size, 0, none⟩) (by simp; omega)).trans c0
             have q1 : w1.cell? ⟨w.heap.size, 1, none⟩ = some (.string ⟨s.toArray⟩) := (hB.1.cell (p := ⟨w.heap.size, 1, none⟩) (by simp; omega)).trans c1
             have q4 : w1.cell? ⟨w.heap.size, 4, none⟩ = some (.int .i64 x) := (hB.1.cell (p := ⟨w.heap.size, 4, none⟩) (by simp; omega)).trans c4
             obtain ⟨z0, z1, z2, z3, z4⟩ := hB.2.at
             obtain ⟨f0, f1, f2, f3, f4⟩ := hB.2.free
             clear hb hB)))
    · go_wp2_with fail
      go_meet
      case rel => exact cpAt_late HB1.out
    · go_wp2_with fail
      go_meet
      case rel => exact cpAt_early HB1.out HX1.out
  case rest =>
    obtain ⟨Bc, rfl, hBc, hcb, hbw⟩ := hcut
    have hz1 : w.heap.size < W0.heap.size := by omega
    have hbx := hbw.block w.heap.size (by omega)
    have hbx1 : ItBox wc w.heap.size k s aF fs.length cF aL ws.length cL x := hbx.trans HBX.out
    obtain ⟨d0, d1, d2, d3, d4⟩ := hbx1.at
    have HCB := Lib.hid hcb
    have HBW := Lib.hid hbw
    have HBX1 := Lib.hid hbx1
    have hlt : Bc < wc.heap.size := hcb.lt
    have HBwc := Lib.hid (HB0.out.trans (hbw.mono (by omega)))
    have hzc := hbw.size
    have hnF : (fs.length : Int) ≤ 1000000 := by omega
    have hnL : (ws.length : Int) ≤ 1000000 := by omega
    clear c0 c1 c4 hbx hbx1 hcb hbw
    go_wp2
    go_loopw [19] (fun i wr => ∃ q : Nat, q ≤ fs.length ∧ i = .int .i64 q ∧ Hid (CpF wc Bc k s x fs q wr)) (fun i _ => fs.length - (intOf i).toNat)
    case atStart => exact ⟨0, Nat.zero_le _, rfl, Lib.hid ⟨none, 0, HCB.out, World.ownsRow_nil _ _ _ _, Keeps.refl _ _⟩⟩
    case round =>
      obtain ⟨q, hq, rfl, HQ⟩ := hrel
      by_cases hlt2 : q < fs.length
      · obtain ⟨bF, oF, rfl, hbF, hcF⟩ := HF.out.get (by omega)
        obtain ⟨a, c, hqx, hqo, hqk⟩ := HQ.out
        have hne : bF ≠ Bc := by omega
        have y0 := (hqk.cell (p := ⟨bF, oF + q * 2, none⟩) (by simp; omega) hne).trans ((HBwc.out.cell (p := ⟨bF, oF + q * 2, none⟩) hbF).trans (hcF q hlt2).1)
        have y1 := (hqk.cell (p := ⟨bF, oF + q * 2 + 1, none⟩) (by simp; omega) hne).trans ((HBwc.out.cell (p := ⟨bF, oF + q * 2 + 1, none⟩) hbF).trans (hcF q hlt2).2)
        have hlen := HFS.out (fs.getD q ([], [])) (by rw [getD_eq hlt2]; exact List.getElem_mem hlt2)
        obtain ⟨e0, e1, e2, e3, e4⟩ := hqx.at
        obtain ⟨n, hn⟩ : ∃ n, (fs.getD q ([], [])).1 = n := ⟨_, rfl⟩
        obtain ⟨v, hv⟩ : ∃ v, (fs.getD q ([], [])).2 = v := ⟨_, rfl⟩
        rw [hn] at y0 hlen
        rw [hv] at y1 hlen
        have HN := Lib.hid hn
        have HV := Lib.hid hv
        have HX := Lib.hid hqx
        have HO := Lib.hid hqo
        have HK := Lib.hid hqk
        have k0 : (0 : Int) ≤ (q : Int) := by omega
        have k1 : (q : Int) < (fs.length : Int) := by omega
        have kT : ((q : Int)).toNat = q := by omega
        have HC1 := Lib.hid (fun W => clone_any n W (by omega))
        have HC2 := Lib.hid (fun W => clone_any v W (by omega))
        have hzr : wc.heap.size ≤ wr.heap.size := hqk.size
        clear hn hv hqx hqo hqk hcF HQ
        go_upto_region 5 with (fail)
        have HS0 := cpS0 (v0 := .slice a q c) (n := n) (v := v) (wr := wr) e2
        refine wp_region_L (S := (fun W => W.cell? ⟨Bc, 2, none⟩ = some (.slice a q c) ∧ W.cell? ⟨wr.heap.size, 0, none⟩ = some (.string ⟨n.toArray⟩) ∧ W.cell? ⟨wr.heap.size, 1, none⟩ = some (.string ⟨v.toArray⟩))) (f := 12) (by kernel_rfl) ?_
        refine wpAnyL_take (i := 0) (some 23) (v := .pointer (some ⟨Bc, 2, none⟩)) rfl rfl (by kernel_rfl) (by kernel_rfl) (by kernel_rfl) (by kernel_rfl) (fun _ _ _ h => h) (by rfl) (fun W hS => ?_) HS0 ?_
        · rcases hS with ⟨m0, m1, m2⟩
          go_simp
        try simp only [Act.put, List.setIfInBounds_toArray, List.set_cons_zero, List.set_cons_succ]
        refine wpAnyL_take (i := 1) (some 24) (v := .slice a q c) rfl rfl (by kernel_rfl) (by kernel_rfl) (by kernel_rfl) (by kernel_rfl) (fun _ _ _ h => h) (by rfl) (fun W hS => ?_) HS0 ?_
        · rcases hS with ⟨m0, m1, m2⟩
          go_simp
        try simp only [Act.put, List.setIfInBounds_toArray, List.set_cons_zero, List.set_cons_succ]
        refine wpAnyL_take (i := 2) (some 25) (v := .pointer (some ⟨wr.heap.size, 0, none⟩)) rfl rfl (by kernel_rfl) (by kernel_rfl) (by kernel_rfl) (by kernel_rfl) (fun _ _ _ h => h) (by rfl) (fun W hS => ?_) HS0 ?_
        · rcases hS with ⟨m0, m1, m2⟩
          go_simp
        try simp only [Act.put, List.setIfInBounds_toArray, List.set_cons_zero, List.set_cons_succ]
        refine wpAnyL_take (i := 3) (some 26) (v := .string ⟨n.toArray⟩) rfl rfl (by kernel_rfl) (by kernel_rfl) (by kernel_rfl) (by kernel_rfl) (fun _ _ _ h => h) (by rfl) (fun W hS => ?_) HS0 ?_
        · rcases hS with ⟨m0, m1, m2⟩
          go_simp
        try simp only [Act.put, List.setIfInBounds_toArray, List.set_cons_zero, List.set_cons_succ]
        refine wpAnyL_take (i := 5) (some 28) (v := .pointer (some ⟨wr.heap.size, 1, none⟩)) rfl rfl (by kernel_rfl) (by kernel_rfl) (by kernel_rfl) (by kernel_rfl) (fun _ _ _ h => h) (by rfl) (fun W hS => ?_) HS0 ?_
        · rcases hS with ⟨m0, m1, m2⟩
          go_simp
        try simp only [Act.put, List.setIfInBounds_toArray, List.set_cons_zero, List.set_cons_succ]
        refine wpAnyL_take (i := 6) (some 29) (v := .string ⟨v.toArray⟩) rfl rfl (by kernel_rfl) (by kernel_rfl) (by kernel_rfl) (by kernel_rfl) (fun _ _ _ h => h) (by rfl) (fun W hS => ?_) HS0 ?_
        · rcases hS with ⟨m0, m1, m2⟩
          go_simp
        try simp only [Act.put, List.setIfInBounds_toArray, List.set_cons_zero, List.set_cons_succ]
        refine wpAnyL_one (j := 4) (by kernel_rfl) rfl (by rfl) (fun K hK => ?_)
        go_simp
        with_reducible refine (HC1.out _).mono ?_
        rintro e w1 ⟨rfl, hb⟩
        have HS1 := cpSb HS0 hb
        have HB1 := Lib.hid hb
        clear hb
        refine hK _ _ (fun _ => HS1) ?_
        clear hK K
        try simp only [Act.put, List.setIfInBounds_toArray, List.set_cons_zero, List.set_cons_succ]
        refine wpAnyL_one (j := 7) (by kernel_rfl) rfl (by rfl) (fun K hK => ?_)
        go_simp
        with_reducible refine (HC2.out _).mono ?_
        rintro e w2 ⟨rfl, hb⟩
        have HS2 := cpSb HS1 hb
        have HB2 := Lib.hid hb
        clear hb
        refine hK _ _ (fun _ => HS2) ?_
        clear hK K
        try simp only [Act.put, List.setIfInBounds_toArray, List.set_cons_zero, List.set_cons_succ]
        refine wpAnyL_take (i := 8) (some 31) (v := .agg #[.string ⟨n.toArray⟩, .string ⟨v.toArray⟩]) rfl rfl (by kernel_rfl) (by kernel_rfl) (by kernel_rfl) (by kernel_rfl) (fun _ _ _ h => h) (by rfl) (fun W hS => ?_) HS2 ?_
        · rcases hS with ⟨m0, m1, m2⟩
          go_simp
        try simp only [Act.put, List.setIfInBounds_toArray, List.set_cons_zero, List.set_cons_succ]
        refine wpAnyL_one (j := 9) (by kernel_rfl) rfl (by rfl) (fun K hK => ?_)
        refine oper_wp_val (v := .slice (some ⟨w2.heap.size, 0, none⟩) 1 1) (w' := w2.alloc (.cells #[.string ⟨n.toArray⟩, .string ⟨v.toArray⟩] 37)) (by go_simp) ?_
        have HO2 := Lib.hid (owns_kept (S := fun _ => True) HO.out (((Keeps.refl (fun _ => True) wr).alloc (.cells #[.string ⟨n.toArray⟩, .string ⟨v.toArray⟩] 37)).drew.trans ((Keeps.of_below HB1.out fun _ h _ => h).trans (Keeps.of_below HB2.out fun _ h _ => h))) fun _ _ => trivial)
        have hz2r : wr.heap.size < w2.heap.size := by have h1 := HB1.out.size; have h2 := HB2.out.size; simp at h1; omega
        have HS3 := cpSa (o := .cells #[.string ⟨n.toArray⟩, .string ⟨v.toArray⟩] 37) HS2
        refine hK _ _ (fun _ => HS3) ?_
        clear hK K
        try simp only [Act.put, List.setIfInBounds_toArray, List.set_cons_zero, List.set_cons_succ]
        refine wpAnyL_one (j := 10) (by kernel_rfl) rfl (by rfl) (fun K hK => ?_)
        refine wp_append_lies _ (.tmp 24) (.tmp 32) 22 rfl wc.heap.size 37 iF _ 2 32 Try.underlying22 hiF hiF0 hiF1 hiF2 rfl (by decide) (.slice a q c) q (fcells (fs.take q)) rfl (HO2.out.alloc _) ⟨w2.heap.size, 0, none⟩ 1 1 [.string ⟨n.toArray⟩, .string ⟨v.toArray⟩] rfl rfl (two_news w2 _ _ _) (two_one _ _) (by decide) (by unfold maxLen; omega) (by omega) (by simp; omega) _ rfl ?_
        intro g cap w3 hown hgrow hat hlt3
        have HS4 := cpSg (B := wr.heap.size) HS3 hgrow (by simp; omega) (by simp; omega) (fun e => by have := HO.out.lt _ e.symm; omega) (fun e => by have := HO.out.lt _ e.symm; omega)
        have HO3 := Lib.hid hown
        have HG3 := Lib.hid hgrow
        have HK3 := Lib.hid (cp_kept (W1 := wc) (Bc := Bc) HO.out HB1.out HB2.out hgrow)
        have hx3 : ItBox w3 Bc k s a q c none 0 0 x := HK3.out.heap HX.out (fun e => by have := (HO.out.lt _ e.symm).1; omega)
        have gf := hx3.free.2.2.1
        have HX3 := Lib.hid hx3
        clear hx3
        clear hown hgrow
        refine hK _ _ (fun _ => HS4) ?_
        clear hK K
        try simp only [Act.put, List.setIfInBounds_toArray, List.set_cons_zero, List.set_cons_succ]
        refine wpAnyL_take (i := 11) (some 34) (v := .pointer (some ⟨Bc, 2, none⟩)) rfl rfl (by kernel_rfl) (by kernel_rfl) (by kernel_rfl) (by kernel_rfl) (fun _ _ _ h => h) (by rfl) (fun W hS => ?_) HS4 ?_
        · rcases hS with ⟨m0, m1, m2⟩
          go_simp
        try simp only [Act.put, List.setIfInBounds_toArray, List.set_cons_zero, List.set_cons_succ]
        have g0 := HS4.1
        refine wpAnyL_one (j := 12) (by kernel_rfl) rfl (by rfl) (fun K hK => ?_)
        go_simp
        refine hK _ _ (fun h => (h rfl).elim) ?_
        clear hK K
        try simp only [Act.put, List.setIfInBounds_toArray, List.set_cons_zero, List.set_cons_succ]
        refine wpAnyL_done (by kernel_rfl) ?_ _
        go_wp2_with fail
        go_roundw
        case rel => exact ⟨q + 1, by omega, by go_num, Lib.hid (CpF.step hlt hlt2 HN.out HV.out HK.out HO.out HK3.out HX3.out HO3.out)⟩
        case measure => simp [intOf]; omega
      · obtain rfl : q = fs.length := by omega
        obtain ⟨a, c, hqx, hqo, hqk⟩ := HQ.out
        rw [List.take_length] at hqo
        have hbx2 : ItBox wr w.heap.size k s aF fs.length cF aL ws.length cL x := hqk.heap HBX1.out (by omega)
        obtain ⟨d20, d21, d22, d23, d24⟩ := hbx2.at
        have HX := Lib.hid hqx
        have HO := Lib.hid hqo
        have HK := Lib.hid hqk
        have HBX2 := Lib.hid hbx2
        have hBr := hqx.lt
        have hzr : wc.heap.size ≤ wr.heap.size := hqk.size
        clear hqx hqo hqk HQ hbx2
        generalize hnf : fs.length = nF at *
        have HNF := Lib.hid hnf
        clear hnf
        go_wp2
        obtain ⟨wb, rfl⟩ : ∃ wb : World, wb = wr := ⟨_, rfl⟩
        go_loopw [39] (fun i wr => ∃ q : Nat, q ≤ ws.length ∧ i = .int .i64 q ∧ Hid (CpL wb Bc k s a nF c x ws q wr)) (fun i _ => ws.length - (intOf i).toNat)
        case atStart => exact ⟨0, Nat.zero_le _, rfl, Lib.hid ⟨none, 0, HX.out, World.ownsRow_nil _ _ _ _, Keeps.refl _ _⟩⟩
        case round =>
          obtain ⟨q, hq, rfl, HQ⟩ := hrel
          by_cases hlt3' : q < ws.length
          · obtain ⟨bL, oL, rfl, hbL, hcL⟩ := HL.out.get (by omega)
            obtain ⟨a2, c2, hqx, hqo, hqk⟩ := HQ.out
            have hne : bL ≠ Bc := by omega
            have y0 := (hqk.cell (p := ⟨bL, oL + q, none⟩) (by simp; omega) hne).trans ((HK.out.cell (p := ⟨bL, oL + q, none⟩) (by simp; omega) hne).trans ((HBwc.out.cell (p := ⟨bL, oL + q, none⟩) hbL).trans (hcL q hlt3')))
            have hlen := HWS.out (ws.getD q []) (by rw [getD_eq hlt3']; exact List.getElem_mem hlt3')
            obtain ⟨e0, e1, e2, e3, e4⟩ := hqx.at
            obtain ⟨n, hn⟩ : ∃ n, ws.getD q [] = n := ⟨_, rfl⟩
            rw [hn] at y0 hlen
            have HN := Lib.hid hn
            have HX1 := Lib.hid hqx
            have HO1 := Lib.hid hqo
            have HK1 := Lib.hid hqk
            have k0 : (0 : Int) ≤ (q : Int) := by omega
            have k1 : (q : Int) < (ws.length : Int) := by omega
            have kT : ((q : Int)).toNat = q := by omega
            have HC1 := Lib.hid (fun W => clone_any n W (by omega))
            have hzr2 : wb.heap.size ≤ wr.heap.size := hqk.size
            clear hn hqx hqo hqk hcL HQ
            go_upto_region 10 with (fail)
            have HS0 : wr.drew.cell? ⟨Bc, 3, none⟩ = some (.slice a2 q c2) := (World.cell?_drew _ _).trans e3
            refine wp_region_L (S := (fun W => W.cell? ⟨Bc, 3, none⟩ = some (.slice a2 q c2))) (f := 7) (by kernel_rfl) ?_
            refine wpAnyL_take (i := 0) (some 43) (v := .pointer (some ⟨Bc, 3, none⟩)) rfl rfl (by kernel_rfl) (by kernel_rfl) (by kernel_rfl) (by kernel_rfl) (fun _ _ _ h => h) (by rfl) (fun W hS => ?_) HS0 ?_
            · rcases hS with m0
              go_simp
            try simp only [Act.put, List.setIfInBounds_toArray, List.set_cons_zero, List.set_cons_succ]
            refine wpAnyL_take (i := 1) (some 44) (v := .slice a2 q c2) rfl rfl (by kernel_rfl) (by kernel_rfl) (by kernel_rfl) (by kernel_rfl) (fun _ _ _ h => h) (by rfl) (fun W hS => ?_) HS0 ?_
            · rcases hS with m0
              go_simp
            try simp only [Act.put, List.setIfInBounds_toArray, List.set_cons_zero, List.set_cons_succ]
            refine wpAnyL_take (i := 2) (some 45) (v := .string ⟨n.toArray⟩) rfl rfl (by kernel_rfl) (by kernel_rfl) (by kernel_rfl) (by kernel_rfl) (fun _ _ _ h => h) (by rfl) (fun W hS => ?_) HS0 ?_
            · rcases hS with m0
              go_simp
            try simp only [Act.put, List.setIfInBounds_toArray, List.set_cons_zero, List.set_cons_succ]
            refine wpAnyL_one (j := 3) (by kernel_rfl) rfl (by rfl) (fun K hK => ?_)
            go_simp
            with_reducible refine (HC1.out _).mono ?_
            rintro e w1 ⟨rfl, hb⟩
            have HS1 := (hb.cell (p := ⟨Bc, 3, none⟩) (World.block_lt_of_cell? _ _ HS0)).trans HS0
            have HB1 := Lib.hid hb
            clear hb
            refine hK _ _ (fun _ => HS1) ?_
            clear hK K
            try simp only [Act.put, List.setIfInBounds_toArray, List.set_cons_zero, List.set_cons_succ]
            refine wpAnyL_one (j := 4) (by kernel_rfl) rfl (by rfl) (fun K hK => ?_)
            refine oper_wp_val (v := .slice (some ⟨w1.heap.size, 0, none⟩) 1 1) (w' := w1.alloc (.cells #[.string ⟨n.toArray⟩] 9)) (by go_simp) ?_
            have HO2 := Lib.hid (owns_kept (S := fun _ => True) HO1.out ((Keeps.refl (fun _ => True) wr).drew.trans (Keeps.of_below HB1.out fun _ h _ => h)) fun _ _ => trivial)
            have hz2r : wr.heap.size ≤ w1.heap.size := HB1.out.size
            have HS3 := (World.cell?_alloc_lt w1 (.cells #[.string ⟨n.toArray⟩] 9) ⟨Bc, 3, none⟩ (World.block_lt_of_cell? _ _ HS1)).trans HS1
            refine hK _ _ (fun _ => HS3) ?_
            clear hK K
            try simp only [Act.put, List.setIfInBounds_toArray, List.set_cons_zero, List.set_cons_succ]
            refine wpAnyL_one (j := 5) (by kernel_rfl) rfl (by rfl) (fun K hK => ?_)
            refine wp_append_lies _ (.tmp 44) (.tmp 47) 23 rfl wb.heap.size 9 iS _ 1 16 Try.underlying23 hiS hiS0 hiS1 hiS2 rfl (by decide) (.slice a2 q c2) q (wcells (ws.take q)) rfl (HO2.out.alloc _) ⟨w1.heap.size, 0, none⟩ 1 1 [.string ⟨n.toArray⟩] rfl rfl (one_news w1 _ rfl _ _) (by simp [Value.oneCell']) (by decide) (by unfold maxLen; omega) (by omega) (by simp; omega) _ rfl ?_
            intro g cap w3 hown hgrow hat hlt3
            have HS4 := (hgrow.cell_far ⟨Bc, 3, none⟩ (World.block_lt_of_cell? _ _ HS3) (fun e => by have : wb.heap.size ≤ Bc := (HO1.out.lt _ e.symm).1; omega)).trans HS3
            have HO3 := Lib.hid hown
            have HK3 := Lib.hid (cp_kept1 HB1.out hgrow)
            have hx3 : ItBox w3 Bc k s a nF c a2 q c2 x := HK3.out.heap HX1.out (fun e => by have := (HO1.out.lt _ e.symm).1; omega)
            have gf := hx3.free.2.2.2.1
            have HX3 := Lib.hid hx3
            clear hx3 hown hgrow
            refine hK _ _ (fun _ => HS4) ?_
            clear hK K
            try simp only [Act.put, List.setIfInBounds_toArray, List.set_cons_zero, List.set_cons_succ]
            refine wpAnyL_take (i := 6) (some 49) (v := .pointer (some ⟨Bc, 3, none⟩)) rfl rfl (by kernel_rfl) (by kernel_rfl) (by kernel_rfl) (by kernel_rfl) (fun _ _ _ h => h) (by rfl) (fun W hS => ?_) HS4 ?_
            · rcases hS with m0
              go_simp
            try simp only [Act.put, List.setIfInBounds_toArray, List.set_cons_zero, List.set_cons_succ]
            refine wpAnyL_one (j := 7) (by kernel_rfl) rfl (by rfl) (fun K hK => ?_)
            go_simp
            refine hK _ _ (fun h => (h rfl).elim) ?_
            clear hK K
            try simp only [Act.put, List.setIfInBounds_toArray, List.set_cons_zero, List.set_cons_succ]
            refine wpAnyL_done (by kernel_rfl) ?_ _
            go_wp2_with fail
            go_roundw
            case rel => exact ⟨q + 1, by omega, by go_num, Lib.hid (CpL.step (by omega) hlt3' HN.out HK1.out HO1.out HK3.out HX3.out HO3.out)⟩
            case measure => simp [intOf]; omega
          · obtain rfl : q = ws.length := by omega
            obtain ⟨a2, c2, hqx, hqo, hqk⟩ := HQ.out
            rw [List.take_length] at hqo
            have hbe : ItBox wr (w.heap.size + 1) 0 [] none 0 0 none 0 0 0 := hqk.heap (HK.out.heap ((HBW.out.block _ (by omega)).trans HRS.out) (by omega)) (by omega)
            obtain ⟨e0, e1, e2, e3, e4⟩ := hqx.at
            obtain ⟨z0, z1, z2, z3, z4⟩ := hbe.at
            obtain ⟨f0, f1, f2, f3, f4⟩ := hbe.free
            have HBE := Lib.hid (hbe.store k s a nF c a2 ws.length c2 x)
            have HO2 := Lib.hid hqo
            have HK2 := Lib.hid hqk
            clear hqx hqo hqk hbe HQ
            generalize hnl : ws.length = nL at *
            have HNL := Lib.hid hnl
            clear hnl
            go_wp2
            obtain ⟨we, hwe⟩ : ∃ we, stIt wr (w.heap.size + 1) k s a nF c a2 nL c2 x = we := ⟨_, rfl⟩
            have hq1 := HNF.out
            have hq2 := HNL.out
            subst hq1 hq2
            have hout := copy_out hz0 hBc HB0.out HBW.out (by omega) HO.out HK.out HO2.out HK2.out we hwe.symm
            have hbe : ItBox we (w.heap.size + 1) k s a fs.length c a2 ws.length c2 x := hwe ▸ HBE.out
            show bodyPost _ _ _ .ret _ (stIt wr (w.heap.size + 1) k s a fs.length c a2 ws.length c2 x)
            rw [hwe]
            exact bodyPost_ret (results_cell rfl rfl (loadVarI hbe)) rfl hout
end Go.Proofs.Ytdnonginlbjcoaa
