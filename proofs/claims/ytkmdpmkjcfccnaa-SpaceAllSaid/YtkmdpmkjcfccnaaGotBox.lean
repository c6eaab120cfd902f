/- The box of what the reference got: an item, or none. -/
import Derived.Test.YtkmdpmkjcfccnaaItMay
import Derived.Maps.OwnIn
namespace Go.Proofs.Ytkmdpmkjcfccnaa
open Go.RowKit Go.Shelf
set_option linter.unusedVariables false
set_option linter.unusedSimpArgs false

/-- the result's box. -/
def Gb (W : World) (B : Nat) (k : Int) (s : List UInt8) (aF : Option Addr) (nF cF : Nat) (aL : Option Addr) (nL cL : Nat) (x : Int) (b : Bool) : Prop :=
  W.heap[B]? = some (.cells #[.int .i64 k, .string ⟨s.toArray⟩, .slice aF nF cF, .slice aL nL cL, .int .i64 x, .bool b] 36 (0, 0))
def stGb (w : World) (B : Nat) (k : Int) (s : List UInt8) (aF : Option Addr) (nF cF : Nat) (aL : Option Addr) (nL cL : Nat) (x : Int) (b : Bool) : World :=
  (((((w.setCell ⟨B, 0, none⟩ (.int .i64 k)).setCell ⟨B, 1, none⟩ (.string ⟨s.toArray⟩)).setCell ⟨B, 2, none⟩ (.slice aF nF cF)).setCell ⟨B, 3, none⟩ (.slice aL nL cL)).setCell ⟨B, 4, none⟩ (.int .i64 x)).setCell ⟨B, 5, none⟩ (.bool b)
theorem Gb.lt {W : World} {B : Nat} {k : Int} {s : List UInt8} {aF : Option Addr} {nF cF : Nat} {aL : Option Addr} {nL cL : Nat} {x : Int} {b : Bool} (h : Gb W B k s aF nF cF aL nL cL x b) : B < W.heap.size := (Array.getElem?_eq_some_iff.1 h).1
theorem Gb.at {W : World} {B : Nat} {k : Int} {s : List UInt8} {aF : Option Addr} {nF cF : Nat} {aL : Option Addr} {nL cL : Nat} {x : Int} {b : Bool} (h : Gb W B k s aF nF cF aL nL cL x b) :
    (W.cell? ⟨B, 0, none⟩ = some (.int .i64 k) ∧ W.cell? ⟨B, 1, none⟩ = some (.string ⟨s.toArray⟩) ∧ W.cell? ⟨B, 2, none⟩ = some (.slice aF nF cF) ∧ W.cell? ⟨B, 3, none⟩ = some (.slice aL nL cL) ∧ W.cell? ⟨B, 4, none⟩ = some (.int .i64 x) ∧ W.cell? ⟨B, 5, none⟩ = some (.bool b)) ∧
    (W.frozen? ⟨B, 0, none⟩ = false ∧ W.frozen? ⟨B, 1, none⟩ = false ∧ W.frozen? ⟨B, 2, none⟩ = false ∧ W.frozen? ⟨B, 3, none⟩ = false ∧ W.frozen? ⟨B, 4, none⟩ = false ∧ W.frozen? ⟨B, 5, none⟩ = false) := by
  unfold Gb at h
  simp [World.cell?, World.frozen?, h]
theorem Gb.store {W : World} {B : Nat} {k0 : Int} {s0 : List UInt8} {a0 : Option Addr} {n0 c0 : Nat} {a1 : Option Addr} {n1 c1 : Nat} {x0 : Int} {b0 : Bool} (h : Gb W B k0 s0 a0 n0 c0 a1 n1 c1 x0 b0) (k : Int) (s : List UInt8) (aF : Option Addr) (nF cF : Nat) (aL : Option Addr) (nL cL : Nat) (x : Int) (b : Bool) :
    Gb (stGb W B k s aF nF cF aL nL cL x b) B k s aF nF cF aL nL cL x b := by
  unfold Gb at h ⊢
  simp [stGb, World.setCell, Array.getElem?_modify, h]
theorem Keeps.stGb {S : Nat → Prop} {A W : World} (h : Keeps S A W) {B : Nat} (hB : A.heap.size ≤ B ∨ ¬ S B) (k : Int) (s : List UInt8) (aF : Option Addr) (nF cF : Nat) (aL : Option Addr) (nL cL : Nat) (x : Int) (b : Bool) : Keeps S A (stGb W B k s aF nF cF aL nL cL x b) :=
  (((((h.setCell (p := ⟨B, 0, none⟩) hB _).setCell (p := ⟨B, 1, none⟩) hB _).setCell (p := ⟨B, 2, none⟩) hB _).setCell (p := ⟨B, 3, none⟩) hB _).setCell (p := ⟨B, 4, none⟩) hB _).setCell (p := ⟨B, 5, none⟩) hB _
theorem below_stGb {w W : World} {B : Nat} (h : Below w.heap.size w W) (hB : w.heap.size ≤ B) (k : Int) (s : List UInt8) (aF : Option Addr) (nF cF : Nat) (aL : Option Addr) (nL cL : Nat) (x : Int) (b : Bool) : Below w.heap.size w (stGb W B k s aF nF cF aL nL cL x b) :=
  (((((h.setCell (p := ⟨B, 0, none⟩) hB _).setCell (p := ⟨B, 1, none⟩) hB _).setCell (p := ⟨B, 2, none⟩) hB _).setCell (p := ⟨B, 3, none⟩) hB _).setCell (p := ⟨B, 4, none⟩) hB _).setCell (p := ⟨B, 5, none⟩) hB _
theorem loadGb {W : World} {B : Nat} {k : Int} {s : List UInt8} {aF : Option Addr} {nF cF : Nat} {aL : Option Addr} {nL cL : Nat} {x : Int} {b : Bool} (h : Gb W B k s aF nF cF aL nL cL x b) :
    (loadVar 36 ⟨B, 0, none⟩).run Try.prog W = .ok (.agg #[.int .i64 k, .string ⟨s.toArray⟩, .slice aF nF cF, .slice aL nL cL, .int .i64 x, .bool b]) W := by
  obtain ⟨⟨h0, h1, h2, h3, h4, h5⟩, -⟩ := h.at
  simp [loadVar, go_sem, h0, h1, h2, h3, h4, h5]
/-- zero, and what was there. -/
def Gz (w W : World) : Prop := Gb W w.heap.size 0 [] none 0 0 none 0 0 0 false ∧ Below w.heap.size w W
theorem Gz.later {w W W' : World} (h : Gz w W) (hb : Below W.heap.size W W') : Gz w W' := ⟨(hb.block _ h.1.lt).trans h.1, h.2.trans (hb.mono h.2.size)⟩
theorem Gz.new (w : World) : Gz w (w.alloc (.cells #[.int .i64 0, .string ⟨#[]⟩, .slice none 0 0, .slice none 0 0, .int .i64 0, .bool false] 36)) := ⟨World.alloc_heap_new w _, (Below.refl _ w).alloc (Nat.le_refl _) _⟩
end Go.Proofs.Ytkmdpmkjcfccnaa
