/- What the library's own variables hold. -/
import Derived.Test.YtbkhnnjjpelfcaaGreatDoorRpBase
import Derived.Test.YtbkhnnjjpelfcaaGreatDoorShelf
import Derived.Test.YtbkhnnjjpelfcaaGreatDoorShelfB
import Derived.Lib.LaidTab
namespace Go.Proofs.YtbkhnnjjpelfcaaGreatDoor
open Go.RowKit Go.Shelf

/-- Go's own tables and errors lie as its text lays them. -/
structure Env (w : World) : Prop where
  size : 8 ≤ w.heap.size
  tab : Lib.TabIs Tryz.prog w "internal/strconv.uint64pow10" .u64 Lib.pow10Tab
  syn : ∃ te pe, w.cell? ⟨4, 0, none⟩ = some (.iface te pe)
  rng : ∃ te pe, w.cell? ⟨5, 0, none⟩ = some (.iface te pe)
  utf : Lib.Utf8Tabs 2 3 w
  mx : ∃ m : Int, w.cell? ⟨0, 0, none⟩ = some (.int .i64 m)

theorem globalTab : Tryz.prog.globalNamed "internal/strconv.uint64pow10" = some 1 := by kernel_rfl

theorem tabIs_kept {w w' : World} (h : Lib.TabIs Tryz.prog w "internal/strconv.uint64pow10" .u64 Lib.pow10Tab) (hk : w'.heap[1]? = w.heap[1]?) : Lib.TabIs Tryz.prog w' "internal/strconv.uint64pow10" .u64 Lib.pow10Tab := by
  unfold Lib.TabIs World.var? at h ⊢
  simp only [globalTab, Option.bind_some] at h ⊢
  rw [hk]
  exact h

theorem Env.kept {w w' : World} (h : Env w) (hs : w.heap.size ≤ w'.heap.size) (hk : ∀ k, k < 8 → w'.heap[k]? = w.heap[k]?) : Env w' where
  size := Nat.le_trans h.size hs
  tab := tabIs_kept h.tab (hk _ (by decide))
  syn := by
    obtain ⟨te, pe, e⟩ := h.syn
    exact ⟨te, pe, (World.cell?_of_block (w := w) (a := ⟨4, 0, none⟩) (hk _ (by decide))).trans e⟩
  rng := by
    obtain ⟨te, pe, e⟩ := h.rng
    exact ⟨te, pe, (World.cell?_of_block (w := w) (a := ⟨5, 0, none⟩) (hk _ (by decide))).trans e⟩
  mx := by
    obtain ⟨m, e⟩ := h.mx
    exact ⟨m, (World.cell?_of_block (w := w) (a := ⟨0, 0, none⟩) (hk _ (by decide))).trans e⟩
  utf := ⟨fun c hc => (World.cell?_of_block (w := w) (a := ⟨2, c, none⟩) (hk _ (by simp))).trans (h.utf.1 c hc),
    fun i hi => ⟨(World.cell?_of_block (w := w) (a := ⟨3, 2 * i, none⟩) (hk _ (by simp))).trans (h.utf.2 i hi).1, (World.cell?_of_block (w := w) (a := ⟨3, 2 * i + 1, none⟩) (hk _ (by simp))).trans (h.utf.2 i hi).2⟩⟩

theorem Env.keeps {S : Nat → Prop} {w w' : World} (h : Env w) (hk : Keeps S w w') (hS : ∀ k, k < 8 → S k) : Env w' :=
  h.kept hk.size fun k hlt => hk.block k (by have := h.size; omega) (hS k hlt)
theorem Env.later {w w' : World} (h : Env w) (hb : Below w.heap.size w w') : Env w' :=
  h.kept hb.size fun k hlt => hb.block k (by have := h.size; omega)
theorem Env.below {n : Nat} {w w' : World} (h : Env w) (hb : Below n w w') (hn : 8 ≤ n) : Env w' :=
  h.kept hb.size fun k hlt => hb.block k (by omega)

end Go.Proofs.YtbkhnnjjpelfcaaGreatDoor
