/- The reference's readers: what they tell (Read), an error, a line's end. -/
import Derived.Test.YtcjbfgkmpoebgaaDoorRpArrBase
import Derived.Test.YtcjbfgkmpoebgaaDoorRpRefPlain
import Derived.LoopTactic
import Derived.Outline
namespace Go.Proofs.YtcjbfgkmpoebgaaDoor
open Go.RowKit Go.Shelf
attribute [local go_sem] Oper.semAt_some
set_option linter.unusedVariables false
set_option linter.unusedSimpArgs false

/-- what stands at a place, as a block of six cells. -/
def Rd6 (W : World) (b : Nat) (x y z u n e : Value) : Prop := W.heap[b]? = some (.cells #[x, y, z, u, n, e] 36 (0, 0))
def set6 (A : World) (b : Nat) (x y z u n e : Value) : World := (((((A.setCell ⟨b, 0, none⟩ x).setCell ⟨b, 1, none⟩ y).setCell ⟨b, 2, none⟩ z).setCell ⟨b, 3, none⟩ u).setCell ⟨b, 4, none⟩ n).setCell ⟨b, 5, none⟩ e
theorem Rd6.set {A : World} {b : Nat} {x y z u n e : Value} (h : Rd6 A b x y z u n e) (x' y' z' u' n' e' : Value) : Rd6 (set6 A b x' y' z' u' n' e') b x' y' z' u' n' e' := by
  unfold Rd6 at h ⊢
  simp [set6, World.setCell, Array.getElem?_modify, h]
theorem Rd6.set0 {A : World} {b : Nat} {x y z u n e : Value} (h : Rd6 A b x y z u n e) (x' : Value) : Rd6 (A.setCell ⟨b, 0, none⟩ x') b x' y z u n e := by
  unfold Rd6 at h ⊢
  simp [World.setCell, Array.getElem?_modify, h]
theorem Rd6.other {A : World} {b b' j : Nat} {x y z u n e v : Value} (h : Rd6 A b x y z u n e) (hb : b ≠ b') : Rd6 (A.setCell ⟨b', j, none⟩ v) b x y z u n e := by
  unfold Rd6 at h ⊢
  rw [Below.heap_setCell A ⟨b', j, none⟩ v b hb]
  exact h
theorem set6_cell (A : World) {b b' j : Nat} (h : b' ≠ b) (x y z u n e : Value) : (set6 A b x y z u n e).cell? ⟨b', j, none⟩ = A.cell? ⟨b', j, none⟩ := by
  unfold set6
  rw [World.cell?_setCell_other _ _ _ _ (by simp [h]), World.cell?_setCell_other _ _ _ _ (by simp [h]), World.cell?_setCell_other _ _ _ _ (by simp [h]), World.cell?_setCell_other _ _ _ _ (by simp [h]), World.cell?_setCell_other _ _ _ _ (by simp [h]), World.cell?_setCell_other _ _ _ _ (by simp [h])]
theorem set6_size (A : World) (b : Nat) (x y z u n e : Value) : (set6 A b x y z u n e).heap.size = A.heap.size := by simp [set6]
theorem set6_below {B : Nat} {w A : World} (h : Below B w A) {b : Nat} (hb : B ≤ b) (x y z u n e : Value) : Below B w (set6 A b x y z u n e) :=
  (((((h.setCell (p := ⟨b, 0, none⟩) hb x).setCell (p := ⟨b, 1, none⟩) hb y).setCell (p := ⟨b, 2, none⟩) hb z).setCell (p := ⟨b, 3, none⟩) hb u).setCell (p := ⟨b, 4, none⟩) hb n).setCell (p := ⟨b, 5, none⟩) hb e
theorem Rd6.cells {W : World} {b : Nat} {x y z u n e : Value} (h : Rd6 W b x y z u n e) : W.cell? ⟨b, 0, none⟩ = some x ∧ W.cell? ⟨b, 1, none⟩ = some y ∧ W.cell? ⟨b, 2, none⟩ = some z ∧ W.cell? ⟨b, 3, none⟩ = some u ∧ W.cell? ⟨b, 4, none⟩ = some n ∧ W.cell? ⟨b, 5, none⟩ = some e := by
  unfold Rd6 at h
  simp [World.cell?, h]
theorem Rd6.cells' {W : World} {b : Nat} {x y z u n e : Value} (h : Rd6 W b x y z u n e) : W.frozen? ⟨b, 0, none⟩ = false ∧ W.frozen? ⟨b, 1, none⟩ = false ∧ W.frozen? ⟨b, 2, none⟩ = false ∧ W.frozen? ⟨b, 3, none⟩ = false ∧ W.frozen? ⟨b, 4, none⟩ = false ∧ W.frozen? ⟨b, 5, none⟩ = false := by
  unfold Rd6 at h
  simp [World.frozen?, h]
theorem Rd6.later {W W' : World} {b : Nat} {x y z u n e : Value} (h : Rd6 W b x y z u n e) (hb : Below W.heap.size W W') : Rd6 W' b x y z u n e :=
  (hb.block b (Array.getElem?_eq_some_iff.1 h).1).trans h
theorem Rd6.new (w : World) (x y z u n e : Value) : Rd6 (w.alloc (.cells #[x, y, z, u, n, e] 36)) w.heap.size x y z u n e := World.alloc_heap_new w _
theorem loadRd {W : World} {b : Nat} {x y z u n e : Value} (h : Rd6 W b x y z u n e) : (loadVar 36 ⟨b, 0, none⟩).run Tryd.prog W = .ok (.agg #[x, y, z, u, n, e]) W := by
  obtain ⟨h0, h1, h2, h3, h4, h5⟩ := h.cells
  simp [loadVar, go_sem, h0, h1, h2, h3, h4, h5]

/-- no reply. -/
def badV (c : Int) : Value := .agg #[.int .i64 0, .string ⟨#[]⟩, .int .i64 0, .slice none 0 0, .int .i64 0, .int .i64 c]

theorem bad_any (c : Int) (w : World) : Calls Tryd.prog 30 #[.int .i64 c] w fun e W => e = .returned (badV c) ∧ Below w.heap.size w W := by
  obtain ⟨w1, hw1⟩ : ∃ w1, w.alloc (.cells #[.int .i64 0, .string ⟨#[]⟩, .int .i64 0, .slice none 0 0, .int .i64 0, .int .i64 0] 36) = w1 := ⟨_, rfl⟩
  have hz : Rd6 w1 w.heap.size (.int .i64 0) (.string ⟨#[]⟩) (.int .i64 0) (.slice none 0 0) (.int .i64 0) (.int .i64 0) := by rw [← hw1]; exact Rd6.new w _ _ _ _ _ _
  have hb1 : Below w.heap.size w w1 := by rw [← hw1]; exact (Below.refl _ w).alloc (Nat.le_refl _) _
  obtain ⟨z0, z1, z2, z3, z4, z5⟩ := hz.cells
  obtain ⟨f0, f1, f2, f3, f4, f5⟩ := hz.cells'
  have HW1 := Lib.hid hw1
  have HZ := Lib.hid hz
  have HB1 := Lib.hid hb1
  clear hw1 hz hb1
  go_enter Tryd.func30, Tryd.ntmps30
  go_upto_region 1 with (fail)
  rw [show w.alloc (.cells #[.int .i64 0, .string ⟨#[]⟩, .int .i64 0, .slice none 0 0, .int .i64 0, .int .i64 0] 36) = w1 from HW1.out]
  clear HW1
  go_wp2
  have hs := HZ.out.set (.int .i64 0) (.string ⟨#[]⟩) (.int .i64 0) (.slice none 0 0) (.int .i64 0) (.int .i64 c)
  have hb := set6_below HB1.out (Nat.le_refl _) (.int .i64 0) (.string ⟨#[]⟩) (.int .i64 0) (.slice none 0 0) (.int .i64 0) (.int .i64 c)
  show bodyPost _ _ _ .ret _ (set6 w1 w.heap.size (.int .i64 0) (.string ⟨#[]⟩) (.int .i64 0) (.slice none 0 0) (.int .i64 0) (.int .i64 c))
  generalize set6 w1 w.heap.size (.int .i64 0) (.string ⟨#[]⟩) (.int .i64 0) (.slice none 0 0) (.int .i64 0) (.int .i64 c) = w2 at hs hb
  exact bodyPost_ret (results_cell rfl rfl (loadRd hs)) rfl ⟨rfl, hb⟩
end Go.Proofs.YtcjbfgkmpoebgaaDoor
