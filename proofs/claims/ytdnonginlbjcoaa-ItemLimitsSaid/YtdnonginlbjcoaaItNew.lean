/- Literal slices of fields and words; an item in a box behind others. -/
import Derived.Test.YtdnonginlbjcoaaItAwake
namespace Go.Proofs.Ytdnonginlbjcoaa
open Go.RowKit Go.Shelf
set_option linter.unusedVariables false
set_option linter.unusedSimpArgs false

/-- a literal slice of fields. -/
theorem fds_new (w : World) (fs : List (List UInt8 × List UInt8)) (hl : fs.length ≤ 1000) (hs : ∀ p ∈ fs, p.1.length ≤ 9223372036854775807 ∧ p.2.length ≤ 9223372036854775807) : Fds (w.alloc (.cells (fcells fs).toArray 37)) (some ⟨w.heap.size, 0, none⟩) fs.length fs := by
  refine ⟨Nat.le_refl _, by omega, hs, .inr ⟨w.heap.size, 0, rfl, by simp, fun k hk => ?_⟩⟩
  obtain ⟨e1, e2⟩ := fcells_at fs k hk
  rw [Nat.zero_add, cell_of_row _ _ _ _ 37 (0, 0) (World.alloc_heap_new w _), cell_of_row _ _ _ _ 37 (0, 0) (World.alloc_heap_new w _)]
  exact ⟨by simpa using e1, by simpa using e2⟩

theorem Fds.far {w : World} {B cap : Nat} {fs : List (List UInt8 × List UInt8)} (h : Fds w (some ⟨B, 0, none⟩) cap fs) {p : Addr} (hp : B ≠ p.block) (v : Value) : Fds (w.setCell p v) (some ⟨B, 0, none⟩) cap fs :=
  h.keep (by simp) fun b off e _ => by
    injection e with e
    injection e with e
    subst e
    exact Below.heap_setCell _ _ _ _ hp
theorem Wds.far {w : World} {B cap : Nat} {ws : List (List UInt8)} (h : Wds w (some ⟨B, 0, none⟩) cap ws) {p : Addr} (hp : B ≠ p.block) (v : Value) : Wds (w.setCell p v) (some ⟨B, 0, none⟩) cap ws :=
  h.keep (by simp) fun b off e _ => by
    injection e with e
    injection e with e
    subst e
    exact Below.heap_setCell _ _ _ _ hp
theorem parts_box {W3 : World} {n : Nat} (h : W3.heap.size = n + 3) (o p : Obj) : ((W3.alloc o).alloc p).heap[n + 1 + 1 + 1 + 1]? = some p := by
  have := World.alloc_heap_new (W3.alloc o) p
  rwa [World.size_alloc, h] at this

theorem parts_w5 {W3 : World} {n : Nat} (h : W3.heap.size = n) (o p : Obj) : Below W3.heap.size W3 ((W3.alloc o).alloc p) ∧ ((W3.alloc o).alloc p).heap.size = n + 2 := by
  refine ⟨((Below.refl _ W3).alloc (Nat.le_refl _) o).alloc (by simp) p, by simp [h]⟩

end Go.Proofs.Ytdnonginlbjcoaa
