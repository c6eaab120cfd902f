/- Stores into a row of words, of fields, that was made since. -/
import Derived.Test.YtdnonginlbjcoaaItCopy
namespace Go.Proofs.Ytdnonginlbjcoaa
open Go.RowKit Go.Shelf

theorem setAt {α : Type} {d : α} {ws : List α} {j k : Nat} {x : α} (hj : j < ws.length) : (ws.set j x).getD k d = if k = j then x else ws.getD k d := by
  simp only [List.getD, List.getElem?_set]
  by_cases h : j = k
  · subst h; simp [hj]
  · rw [if_neg h, if_neg (fun e => h e.symm)]
/-- a word is set. -/
theorem Wds.turn {w : World} {g cap : Nat} {ws : List (List UInt8)} (h : Wds w (some ⟨g, 0, Option.none⟩) cap ws) (j : Nat) (x : List UInt8) (hj : j < ws.length) (hx : x.length ≤ 9223372036854775807) :
    Wds (w.setCell ⟨g, j, Option.none⟩ (.string ⟨x.toArray⟩)) (some ⟨g, 0, Option.none⟩) cap (ws.set j x) := by
  obtain ⟨b, off, he, hlt, hc⟩ := h.get (by omega)
  cases he
  refine ⟨by rw [List.length_set]; exact h.1, h.2.1, fun s hs => ?_, .inr ⟨g, 0, rfl, by simpa using hlt, fun k hk => ?_⟩⟩
  · rcases List.mem_or_eq_of_mem_set hs with hs | rfl
    · exact h.2.2.1 s hs
    · exact hx
  · rw [List.length_set] at hk
    rw [Nat.zero_add, setAt hj]
    have hck := hc k hk
    rw [Nat.zero_add] at hck
    by_cases hkj : k = j
    · subst hkj
      rw [if_pos rfl]
      exact World.cell?_setCell_same _ _ _ hck
    · rw [if_neg hkj, World.cell?_setCell_other _ _ _ _ (by intro e; injection e with _ e; exact hkj e.symm)]
      exact hck
/-- a field's value is set. -/
theorem Fds.turn {w : World} {g cap : Nat} {fs : List (List UInt8 × List UInt8)} (h : Fds w (some ⟨g, 0, Option.none⟩) cap fs) (j : Nat) (x : List UInt8) (hj : j < fs.length) (hx : x.length ≤ 9223372036854775807) :
    Fds (w.setCell ⟨g, j * 2 + 1, Option.none⟩ (.string ⟨x.toArray⟩)) (some ⟨g, 0, Option.none⟩) cap (fs.set j ((fs.getD j ([], [])).1, x)) := by
  obtain ⟨b, off, he, hlt, hc⟩ := h.get (by omega)
  cases he
  refine ⟨by rw [List.length_set]; exact h.1, h.2.1, fun s hs => ?_, .inr ⟨g, 0, rfl, by simpa using hlt, fun k hk => ?_⟩⟩
  · rcases List.mem_or_eq_of_mem_set hs with hs | rfl
    · exact h.2.2.1 s hs
    · exact ⟨h.len.1, hx⟩
  · rw [List.length_set] at hk
    rw [Nat.zero_add, setAt hj]
    obtain ⟨hc1, hc2⟩ := hc k hk
    rw [Nat.zero_add] at hc1 hc2
    have o1 : (w.setCell ⟨g, j * 2 + 1, Option.none⟩ (.string ⟨x.toArray⟩)).cell? ⟨g, k * 2, Option.none⟩ = w.cell? ⟨g, k * 2, Option.none⟩ := World.cell?_setCell_other _ _ _ _ (by intro e; injection e with _ e; omega)
    by_cases hkj : k = j
    · subst hkj
      rw [if_pos rfl]
      exact ⟨o1.trans hc1, World.cell?_setCell_same _ _ _ hc2⟩
    · rw [if_neg hkj]
      exact ⟨o1.trans hc1, (World.cell?_setCell_other _ _ _ _ (by intro e; injection e with _ e; omega)).trans hc2⟩

/-- a row that the call made, words, in a world since. -/
theorem Wds.row {w : World} {base n : Nat} {a : Option Addr} {cap : Nat} {ws : List (List UInt8)} (h : w.ownsRow base 9 1 (.slice a n cap) ws.length (wcells ws)) (hl : ∀ s ∈ ws, s.length ≤ 9223372036854775807) :
    Wds w a cap ws ∧ (ws ≠ [] → ∃ g, a = some ⟨g, 0, Option.none⟩ ∧ base ≤ g ∧ g < w.heap.size ∧ ∀ j, w.frozen? ⟨g, j, Option.none⟩ = false) := by
  obtain ⟨a1, c1, e1, h1, h2⟩ := wds_of_row h hl
  injection e1 with e1 _ e3
  subst e1 e3
  exact ⟨h1, h2⟩
theorem Fds.row {w : World} {base n : Nat} {a : Option Addr} {cap : Nat} {ws : List (List UInt8 × List UInt8)} (h : w.ownsRow base 37 2 (.slice a n cap) ws.length (fcells ws)) (hl : ∀ p ∈ ws, p.1.length ≤ 9223372036854775807 ∧ p.2.length ≤ 9223372036854775807) :
    Fds w a cap ws ∧ (ws ≠ [] → ∃ g, a = some ⟨g, 0, Option.none⟩ ∧ base ≤ g ∧ g < w.heap.size ∧ ∀ j, w.frozen? ⟨g, j, Option.none⟩ = false) := by
  obtain ⟨a1, c1, e1, h1, h2⟩ := fds_of_row h hl
  injection e1 with e1 _ e3
  subst e1 e3
  exact ⟨h1, h2⟩
end Go.Proofs.Ytdnonginlbjcoaa
