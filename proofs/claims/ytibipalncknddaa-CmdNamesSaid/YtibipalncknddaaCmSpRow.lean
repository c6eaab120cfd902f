/- Rows of the table side by side in memory. -/
import Derived.Test.YtibipalncknddaaCmBase
namespace Go.Proofs.Ytibipalncknddaa
open Go.RowKit Go.Shelf

theorem flat_at (sub : List Cm.Sp) (k : Nat) (h : k < sub.length) (j : Nat) (hj : j < 7) : (sub.flatMap spL)[k * 7 + j]? = (spL sub[k])[j]? := by
  induction sub generalizing k with
  | nil => simp at h
  | cons s r ih =>
    rw [List.flatMap_cons]
    have hl : (spL s).length = 7 := rfl
    cases k with
    | zero => rw [List.getElem?_append_left (by omega)]; simp
    | succ k =>
      rw [List.getElem?_append_right (by omega), hl, show (k + 1) * 7 + j - 7 = k * 7 + j by omega, ih k (by simpa using h)]
      simp

/-- the block b holds these rows. -/
def SpTab (w : World) (b : Nat) (sub : List Cm.Sp) : Prop := w.heap[b]? = some (.cells (sub.flatMap spL).toArray 26 (0, 0))

theorem SpTab.at {w : World} {b : Nat} {sub : List Cm.Sp} (h : SpTab w b sub) {k : Nat} (hk : k < sub.length) : SpAt w b (k * 7) sub[k] := by
  have hc : ∀ j, j < 7 → w.cell? ⟨b, k * 7 + j, none⟩ = (spL sub[k])[j]? := fun j hj => by
    rw [cell_of_row _ _ _ _ 26 (0, 0) h]
    simpa using flat_at sub k hk j hj
  exact ⟨hc 0 (by omega), hc 1 (by omega), hc 2 (by omega), hc 3 (by omega), hc 4 (by omega), hc 5 (by omega), hc 6 (by omega)⟩

theorem SpTab.lt {w : World} {b : Nat} {sub : List Cm.Sp} (h : SpTab w b sub) : b < w.heap.size := (Array.getElem?_eq_some_iff.1 h).1

end Go.Proofs.Ytibipalncknddaa
