/- Whether two lists of words, or of fields, are one: slices.Equal, and the reference's Texts and SameFields. The contracts of item.Same and of the reference's SameItem. The contract of the reference's SameSpace (11.1). -/
import Derived.Test.YtahmddopbmjepaaDoorRB09
import Derived.BigQuiet
import Derived.Test.YtahmddopbmjepaaDoorRB10
import Derived.Test.YtahmddopbmjepaaDoorRB14
import Derived.LoopTactic
import Derived.Sort.Walk0
namespace Go.Proofs.YtahmddopbmjepaaDoor
open Go.RowKit Go.Shelf

theorem eq_of_getD {α : Type} {d : α} {l m : List α} (hl : l.length = m.length) (h : ∀ k, k < l.length → l.getD k d = m.getD k d) : l = m := by
  apply List.ext_getElem hl
  intro i h1 h2
  have := h i h1
  rwa [getD_eq h1, getD_eq h2] at this

theorem field_neq (x y x2 y2 : List UInt8) (w : World) :
    (binOp .neq 106 (.agg #[.string ⟨x.toArray⟩, .string ⟨y.toArray⟩]) (.agg #[.string ⟨x2.toArray⟩, .string ⟨y2.toArray⟩])).run Tryd.prog w = .ok (.bool (!decide ((x, y) = (x2, y2)))) w := by
  have u9 := Tryd.underlying9
  have a9 := Tryd.isAgg9
  have z9 := Tryd.sizeOf9
  have hS : Tryd.prog.underlying 106 = some (.struct (Tryd.prog.fieldsOf 106)) := by kernel_rfl
  have hp : Tryd.prog.stoodInHeld 106 = false := by kernel_rfl
  rw [run_neq_struct, show (10000 : Nat) = 9999 + 1 from rfl, run_equalIn_agg w 9999 106 _ _ hS hp]
  simp only [Program.fieldsOf, Tryd.underlying106]
  go_simp
  by_cases h1 : x = x2 <;> by_cases h2 : y = y2 <;> simp [h1, h2]

-- left out: texts_len
-- left out: texts_same
-- left out: texts_any
-- left out: sameF_len
-- left out: sameF_same
-- left out: sameF_any
end Go.Proofs.YtahmddopbmjepaaDoor
namespace Go.Proofs.YtahmddopbmjepaaDoor
open Go.RowKit Go.Shelf

-- left out: refSame_any
end Go.Proofs.YtahmddopbmjepaaDoor
namespace Go.Proofs.YtahmddopbmjepaaDoor
open Go.RowKit Go.Shelf
attribute [local go_sem] Oper.semAt_some
set_option linter.unusedVariables false
set_option linter.unusedSimpArgs false

theorem all_upto {fB : Nat → Bool} {n : Nat} (h : ∀ j, j < n → fB j = true) (hn : fB n = true) : ∀ j, j < n + 1 → fB j = true := fun j hj => by
  rcases Nat.lt_or_ge j n with h' | h'
  · exact h j h'
  · rw [show j = n by omega]; exact hn

theorem all_falseS {n m : Nat} {p : Nat → Bool} (h : m < n) (hp : p m = false) : (List.range n).all p = false := by
  rw [List.all_eq_false]
  exact ⟨m, List.mem_range.2 h, by rw [hp]; decide⟩
-- left out: sameSpace_any
end Go.Proofs.YtahmddopbmjepaaDoor
