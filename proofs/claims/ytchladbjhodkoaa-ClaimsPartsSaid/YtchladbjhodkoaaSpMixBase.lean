/- The contract of the reference's Mix. -/
import Derived.Test.YtchladbjhodkoaaSpMarks
import Derived.Test.YtchladbjhodkoaaSpMixPlain
import Derived.Laws.OwnMore
import Derived.StillTailTactics
import Derived.Deep.RegionWith
import Derived.Lib.SmallJoins
import Derived.Deep.RegionHeld3
import Derived.IntWalk
import Derived.Deep.AppendLies
namespace Go.Proofs.Ytchladbjhodkoaa
open Go.RowKit

def spanCells (l : List Sp.S) : List Value := l.flatMap fun s => [Value.int .i64 s.1, Value.int .i64 s.2]

theorem Try.infoSpan : (Try.prog.info? 51).map (fun i => (i.zero, i.size, i.bytes)) = some (some (.agg #[.int .i64 0, .int .i64 0]), 2, 16) := by kernel_rfl

theorem refHas_same (a : Option Addr) (cap : Nat) (l : List Sp.S) (n : Int) (w : World) (h : Spans w a cap l) :
    Calls Try.prog 27 #[.slice a l.length cap, .int .i64 n] w fun e w' => e = .returned (.bool (Sp.hasB l n)) ∧ w' = w :=
  (refHas_any a cap l n w h).mono fun _ _ ⟨h1, h2⟩ => ⟨h1, h2.symm⟩

theorem Spans.drewN {w : World} {a : Option Addr} {cap : Nat} {l : List Sp.S} (h : Spans w a cap l) (n : Nat) : Spans (w.drewN n) a cap l := h.later (below_drewN (Below.refl _ _) n)

theorem spanCells_snoc (l : List Sp.S) (s : Sp.S) : spanCells (l ++ [s]) = spanCells l ++ [Value.int .i64 s.1, Value.int .i64 s.2] := by
  simp [spanCells]

theorem spanCells_len (l : List Sp.S) : (spanCells l).length = l.length * 2 := by
  induction l with
  | nil => rfl
  | cons s l ih => simp [spanCells] at ih ⊢; omega

theorem spanCells_set (l : List Sp.S) (x y z : Int) : (spanCells (l ++ [(x, y)])).set (l.length * 2 + 1) (Value.int .i64 z) = spanCells (l ++ [(x, z)]) := by
  rw [spanCells_snoc, spanCells_snoc, List.set_append_right _ _ (by rw [spanCells_len]; omega), spanCells_len]
  have : l.length * 2 + 1 - l.length * 2 = 1 := by omega
  rw [this]
  rfl

theorem spanCells_last (l : List Sp.S) (t : Sp.S) : (spanCells (l ++ [t]))[l.length * 2 + 1]? = some (Value.int .i64 t.2) := by
  rw [spanCells_snoc, List.getElem?_append_right (by rw [spanCells_len]; omega), spanCells_len]
  have : l.length * 2 + 1 - l.length * 2 = 1 := by omega
  rw [this]
  rfl

/-- a slice of spans that the call itself appended to. -/
theorem spans_owned {w : World} {base : Nat} {v : Value} {l : List Sp.S} (h : w.ownsRow base 51 2 v l.length (spanCells l)) (hl : l.length ≤ 1000000) (hv : Sp.Valid l) :
    ∃ a cap, v = .slice a l.length cap ∧ Spans w a cap l := by
  have hr : ∀ s ∈ l, -9223372036854775808 ≤ s.1 ∧ s.1 ≤ 9223372036854775807 ∧ -9223372036854775808 ≤ s.2 ∧ s.2 ≤ 9223372036854775807 := by
    intro s hs
    have := hv.1 s hs
    omega
  obtain ⟨_, hcase⟩ := h
  rcases hcase with ⟨h1, h2⟩ | ⟨g, cap, cur, h1, hgB, hgg, hnc, hcm, hcs, htk⟩
  · have h0 : l = [] := List.eq_nil_of_length_eq_zero h2
    subst h0
    exact ⟨none, 0, h1, by simp, by simp, hr, .inl rfl⟩
  · have hlt : g < w.heap.size := (Array.getElem?_eq_some_iff.1 hgg).1
    refine ⟨some ⟨g, 0, none⟩, cap, h1, hnc, by omega, hr, .inr ⟨g, 0, rfl, hlt, ?_⟩⟩
    intro k hk
    have at_ : ∀ j, j < l.length * 2 → w.cell? ⟨g, j, none⟩ = (spanCells l)[j]? := by
      intro j hj
      rw [cell_of_row w g j cur 51 (0, 0) hgg, ← htk, List.getElem?_take, if_pos hj]
      simp
    have key : ∀ (l : List Sp.S) (k : Nat), k < l.length → (spanCells l)[k * 2]? = some (.int .i64 (l.getD k (0, 0)).1) ∧ (spanCells l)[k * 2 + 1]? = some (.int .i64 (l.getD k (0, 0)).2) := by
      intro l
      induction l with
      | nil => intro k hk; simp at hk
      | cons s l ih =>
        intro k hk
        cases k with
        | zero => exact ⟨rfl, rfl⟩
        | succ k =>
          have := ih k (by simpa using hk)
          have e1 : (k + 1) * 2 = k * 2 + 1 + 1 := by omega
          have e2 : (k + 1) * 2 + 1 = k * 2 + 1 + 1 + 1 := by omega
          rw [e2, e1]
          simpa [spanCells] using this
    have hk2 := key l k hk
    rw [Nat.zero_add, at_ _ (by omega), at_ _ (by omega)]
    exact hk2

/-- what Mix hands back: a slice that holds the spans. -/
def Mixed (how : Int) (l1 l2 : List Sp.S) (w : World) (e : Ending) (w' : World) : Prop :=
  ∃ a cap, e = .returned (.slice a (Sp.mixS how l1 l2).length cap) ∧ Spans w' a cap (Sp.mixS how l1 l2) ∧ Below w.heap.size w w'

end Go.Proofs.Ytchladbjhodkoaa
