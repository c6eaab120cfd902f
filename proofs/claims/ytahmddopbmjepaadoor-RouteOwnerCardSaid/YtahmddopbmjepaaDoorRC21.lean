/- What item.Copy tells; where rows of the call's own lie. No Make, HSet, SAdd. -/
import Derived.Test.YtahmddopbmjepaaDoorRC20
import Derived.Test.YtahmddopbmjepaaDoorRC10
import Derived.Maps.OwnIn
import Derived.Deep.Cut
import Derived.Laws.AppendOwnNone
import Derived.Deep.RegionHeld3
import Derived.Deep.AppendLies
import Derived.Deep.DeepCutAuto
import Derived.Test.YtahmddopbmjepaaDoorRC19
import Derived.BigQuiet
import Derived.Test.YtahmddopbmjepaaDoorRC03
import Derived.IntWalk
namespace Go.Proofs.YtahmddopbmjepaaDoor
open Go.RowKit Go.Shelf
set_option linter.unusedVariables false
set_option linter.unusedSimpArgs false

/-- a copy: the same parts, in rows of its own. -/
def CopyOut (k x : Int) (s : List UInt8) (fs : List (List UInt8 × List UInt8)) (ws : List (List UInt8)) (w : World) (e : Ending) (W : World) : Prop :=
  ∃ aF cF aL cL, e = .returned (itv k s aF fs.length cF aL ws.length cL x) ∧ W.ownsRow w.heap.size 106 2 (.slice aF fs.length cF) fs.length (fcells fs) ∧ W.ownsRow w.heap.size 9 1 (.slice aL ws.length cL) ws.length (wcells ws) ∧
    (∀ g, (Value.slice aF fs.length cF).ownBlock = some g → (Value.slice aL ws.length cL).ownBlock ≠ some g) ∧ Below w.heap.size w W

/-- the round's blocks, as they stand in the loops. -/
def CpInv (W2 : World) (Bc : Nat) (k x : Int) (s : List UInt8) (aF : Option Addr) (nF cF : Nat) (aL : Option Addr) (nL cL : Nat) (fs : List (List UInt8 × List UInt8)) (ws : List (List UInt8)) (W : World) : Prop :=
  ItBox W Bc k s aF nF cF aL nL cL x ∧ W.ownsRow W2.heap.size 106 2 (.slice aF nF cF) fs.length (fcells fs) ∧ W.ownsRow W2.heap.size 9 1 (.slice aL nL cL) ws.length (wcells ws) ∧
    (∀ g, (Value.slice aF nF cF).ownBlock = some g → (Value.slice aL nL cL).ownBlock ≠ some g) ∧ Keeps (fun j => j ≠ Bc) W2 W

theorem copy_out {w W0 wc wr w4 : World} {Bc : Nat} {k x : Int} {s : List UInt8} {fs : List (List UInt8 × List UInt8)} {ws : List (List UInt8)} {a a2 : Option Addr} {c c2 : Nat} (hz : w.heap.size + 2 ≤ W0.heap.size) (hBc : W0.heap.size ≤ Bc) (hb0 : Below w.heap.size w W0) (hbw : Below W0.heap.size W0 wc) (hBc2 : Bc < wc.heap.size)
    (ho : wr.ownsRow wc.heap.size 106 2 (.slice a fs.length c) fs.length (fcells fs)) (hk : Keeps (fun j => j ≠ Bc) wc wr) (ho2 : w4.ownsRow wr.heap.size 9 1 (.slice a2 ws.length c2) ws.length (wcells ws)) (hk2 : Keeps (fun j => j ≠ Bc) wr w4) (Wend : World) (hW : Wend = stIt w4 (w.heap.size + 1) k s a fs.length c a2 ws.length c2 x) :
    CopyOut k x s fs ws w (.returned (itv k s a fs.length c a2 ws.length c2 x)) Wend := by
  have hzw := hbw.size
  have hk3 : Keeps (fun j => j ≠ w.heap.size + 1) w4 Wend := by rw [hW]; exact (Keeps.refl _ w4).stIt (.inr fun h => h rfl) k s a fs.length c a2 ws.length c2 x
  refine ⟨a, c, a2, c2, rfl, ?_, ?_, ?_, ?_⟩
  · refine owns_base (owns_kept (S := fun j => j ≠ w.heap.size + 1) (owns_kept (S := fun j => j ≠ Bc) ho hk2 ?_) hk3 ?_) (by omega)
    · intro g hg; have := (ho.lt g hg).1; omega
    · intro g hg; have := (ho.lt g hg).1; omega
  · have := hk.size
    refine owns_base (owns_kept (S := fun j => j ≠ w.heap.size + 1) ho2 hk3 ?_) (by omega)
    intro g hg; have := (ho2.lt g hg).1; omega
  · intro g h1 h2
    have := (ho.lt g h1).2
    have := (ho2.lt g h2).1
    omega
  · have b1 := hk.below (n := w.heap.size) (by omega) fun j hj => by omega
    have := hk.size
    have b2 := hk2.below (n := w.heap.size) (by omega) fun j hj => by omega
    have := hk2.size
    have b3 := hk3.below (n := w.heap.size) (by omega) fun j hj => by omega
    exact (((hb0.trans (hbw.mono (by omega))).trans b1).trans b2).trans b3

theorem owns_far {w : World} {base : Nat} {e : TypeId} {sz m c n B : Nat} {xs : List Value} {a : Option Addr} (h : w.ownsRow base e sz (.slice a m c) n xs) (hB : B < base) : ∀ g o, a = some ⟨g, o, none⟩ → B < g := by
  obtain ⟨_, hc⟩ := h
  rcases hc with ⟨h1, _⟩ | ⟨g', cap, cur, h1, hb, _⟩
  · injection h1 with h1
    intro g o e
    rw [h1] at e
    cases e
  · injection h1 with h1
    intro g o e
    rw [h1] at e
    injection e with e
    injection e with e
    omega
theorem owns_none {w : World} {base : Nat} {e : TypeId} {sz m c n : Nat} {xs : List Value} {a : Option Addr} (h : w.ownsRow base e sz (.slice a m c) n xs) : a = none → c = 0 := by
  obtain ⟨_, hc⟩ := h
  rcases hc with ⟨h1, _⟩ | ⟨g', cap, cur, h1, _⟩
  · injection h1 with h1 h2 h3
    exact fun _ => h3
  · injection h1 with h1
    intro e
    rw [e] at h1
    cases h1
theorem cell_next9 {A B : World} {p : Addr} {v : Value} (h : A.cell? p = some v) (hb : Below A.heap.size A B) : B.cell? p = some v := (hb.cell (World.block_lt_of_cell? A p h)).trans h
theorem cell2_next {A B : World} {p p2 : Addr} {v v2 : Value} (h : A.cell? p = some v ∧ A.cell? p2 = some v2) (hb : Below A.heap.size A B) : B.cell? p = some v ∧ B.cell? p2 = some v2 := ⟨cell_next9 h.1 hb, cell_next9 h.2 hb⟩
theorem stIt_far {w : World} {B g : Nat} (h : g ≠ B) (k : Int) (s : List UInt8) (aF : Option Addr) (nF cF : Nat) (aL : Option Addr) (nL cL : Nat) (x : Int) : (stIt w B k s aF nF cF aL nL cL x).heap[g]? = w.heap[g]? := by
  unfold stIt
  rw [Below.heap_setCell _ _ _ _ h, Below.heap_setCell _ _ _ _ h, Below.heap_setCell _ _ _ _ h, Below.heap_setCell _ _ _ _ h, Below.heap_setCell _ _ _ _ h]
end Go.Proofs.YtahmddopbmjepaaDoor
