/- Where a row lies. -/
import Derived.Test.YtdnonginlbjcoaaItMakeBase
namespace Go.Proofs.Ytdnonginlbjcoaa
open Go.RowKit Go.Shelf

theorem owns_far {w : World} {base : Nat} {e : TypeId} {sz m c n B : Nat} {xs : List Value} {a : Option Addr} (h : w.ownsRow base e sz (.slice a m c) n xs) (hB : B < base) : ∀ g o, a = some ⟨g, o, none⟩ → g ≠ B := by
  obtain ⟨_, hc⟩ := h
  rcases hc with ⟨h1, _⟩ | ⟨g', cap, cur, h1, hb, _⟩
  · injection h1 with h1
    intro g o e
    rw [h1] at e
    cases e
  · injection h1 with h1
    intro g o e
    rw [h1] at e
    injection e with e
    injection e with e
    omega
end Go.Proofs.Ytdnonginlbjcoaa
