/- A loop's variable that is a span, boxed. -/
import Derived.Test.YtchladbjhodkoaaRuns
namespace Go.Proofs.Ytchladbjhodkoaa
open Go.RowKit Go.Shelf

/-- a loop's variable that is a span, boxed, in a block of its own. -/
def SVar (b : Nat) (mk : Nat → Sp.V → Act) (O : Nat → Prop) (x : Sp.V) (a' : Act) (A : World) : Prop :=
  ∃ Bx, b ≤ Bx ∧ ¬ O Bx ∧ A.heap[Bx]? = some (.cells #[.int .i64 x.1.1, .int .i64 x.1.2] 51 (0, 0)) ∧ a' = mk Bx x

theorem SVar.later {b n : Nat} {mk : Nat → Sp.V → Act} {O : Nat → Prop} {x : Sp.V} {a' : Act} {A C : World} (h : SVar b mk O x a' A) (hn : n < b) (hk : Keeps (fun k => k ≠ n) A C) : SVar b mk O x a' C := by
  obtain ⟨Bx, h1, h2, h3, h4⟩ := h
  exact ⟨Bx, h1, h2, hk.heap h3 (by omega), h4⟩

end Go.Proofs.Ytchladbjhodkoaa
