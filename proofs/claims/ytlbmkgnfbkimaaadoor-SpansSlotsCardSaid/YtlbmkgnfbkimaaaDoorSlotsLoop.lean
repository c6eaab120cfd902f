/- Plain: what the law SpansSlots gathers in its first loop. -/
import Derived.Test.YtlbmkgnfbkimaaaDoorSlotsPlain
import Derived.Test.YtlbmkgnfbkimaaaDoorMake
namespace Go.Proofs.YtlbmkgnfbkimaaaDoor
open Go.RowKit Go.Shelf

/-- the spans of the first numbers. -/
def slTo (ns : List Int) : Nat → List Sp.S
  | 0 => []
  | k + 1 => slTo ns k ++ [(ns.getD k 0 % 200, ns.getD k 0 % 200)]

theorem slTo_len (ns : List Int) : ∀ k, (slTo ns k).length = k
  | 0 => rfl
  | k + 1 => by simp [slTo, slTo_len ns k]

/-- the marks: cell j says whether slot j - 1 is in. -/
def Marks (w : World) (b : Nat) (l : List Sp.S) : Prop := ∃ cs : Array Value, w.heap[b]? = some (.cells cs 4 (0, 0)) ∧ cs.size = 202 ∧ ∀ j : Nat, j < 202 → cs[j]? = some (.bool (Sp.hasB l ((j : Int) - 1)))

theorem slTo_ok {ns : List Int} (h : ∀ n ∈ ns, 0 ≤ n ∧ n ≤ 65535) : ∀ k, k ≤ ns.length → ∀ s ∈ slTo ns k, 0 ≤ s.1 ∧ s.1 = s.2 ∧ s.2 < 200
  | 0, _, s, hs => by simp [slTo] at hs
  | k + 1, hk, s, hs => by
    simp only [slTo, List.mem_append, List.mem_singleton] at hs
    rcases hs with hs | rfl
    · exact slTo_ok h k (by omega) s hs
    · exact ⟨Int.emod_nonneg _ (by decide), rfl, Int.emod_lt_of_pos _ (by decide)⟩

theorem Marks.set {w : World} {b : Nat} {l : List Sp.S} (h : Marks w b l) {x : Nat} (hx : x < 200) : Marks (w.setCell ⟨b, x + 1, none⟩ (.bool true)) b (l ++ [((x : Int), (x : Int))]) := by
  obtain ⟨cs, h1, h2, h3⟩ := h
  refine ⟨cs.setIfInBounds (x + 1) (.bool true), ?_, by simpa using h2, fun j hj => ?_⟩
  · simp [World.setCell, Array.getElem?_modify, h1]
  · have e : Sp.hasB (l ++ [((x : Int), (x : Int))]) ((j : Int) - 1) = (Sp.hasB l ((j : Int) - 1) || decide (j = x + 1)) := by
      rw [Sp.hasB_append]
      congr 1
      by_cases h0 : (0 : Int) ≤ (j : Int) - 1
      · rw [show Sp.hasB [((x : Int), (x : Int))] ((j : Int) - 1) = Sp.inB ((j : Int) - 1) (x, x) by simp [Sp.hasB], Sp.inB_iff h0 (by omega)]
        apply decide_eq_decide.2; simp only; omega
      · rw [Sp.hasB_out (by omega)]
        symm; apply decide_eq_false; omega
    rw [e, Array.getElem?_setIfInBounds]
    by_cases hjx : x + 1 = j
    · subst hjx
      rw [if_pos rfl, if_pos (by omega)]
      simp
    · rw [if_neg hjx, h3 j hj, decide_eq_false (fun h => hjx h.symm), Bool.or_false]

theorem Marks.keep {w w' : World} {b : Nat} {l : List Sp.S} (h : Marks w b l) (hb : w'.heap[b]? = w.heap[b]?) : Marks w' b l := by
  obtain ⟨cs, h1, h2, h3⟩ := h
  exact ⟨cs, hb.trans h1, h2, h3⟩

theorem Marks.cell {w : World} {b : Nat} {l : List Sp.S} (h : Marks w b l) {j : Nat} (hj : j < 202) : w.cell? ⟨b, j, none⟩ = some (.bool (Sp.hasB l ((j : Int) - 1))) ∧ w.frozen? ⟨b, j, none⟩ = false := by
  obtain ⟨cs, h1, h2, h3⟩ := h
  refine ⟨?_, by simp [World.frozen?, h1]⟩
  simp only [World.cell?, h1]
  exact h3 j hj
end Go.Proofs.YtlbmkgnfbkimaaaDoor
