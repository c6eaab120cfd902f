/- The item of a key in a space, with its places. No program in it. -/
import Derived.Test.YtahmddopbmjepaaDoorRA13
namespace Go.Proofs.YtahmddopbmjepaaDoor
open Go.RowKit Go.Shelf
attribute [local go_sem] Oper.semAt_some
set_option linter.unusedVariables false
set_option linter.unusedSimpArgs false

/-- the item of a key, with its places. -/
def rawL (ps : List Lp) (key : List UInt8) : Option Li := (ps.find? fun p => decide (p.key = key)).map Lp.it
theorem rawL_hit (ps : List Lp) (key : List UInt8) : ∀ n, n < ps.length → (∀ j, j < n → (ps.getD j Lp.zero).key ≠ key) → (ps.getD n Lp.zero).key = key → rawL ps key = some (ps.getD n Lp.zero).it := by
  induction ps with
  | nil => intro n h; simp at h
  | cons p ps ih =>
    intro n hn h he
    unfold rawL
    cases n with
    | zero =>
      have he' : p.key = key := by simpa using he
      rw [List.find?_cons_of_pos (by simpa using he')]
      rfl
    | succ n =>
      have h0 : ¬ p.key = key := by simpa using h 0 (by omega)
      rw [List.find?_cons_of_neg (by simpa using h0)]
      have := ih n (by simpa using hn) (fun j hj => by simpa using h (j + 1) (by omega)) (by simpa using he)
      unfold rawL at this
      rw [this]
      simp
theorem rawL_miss (ps : List Lp) (key : List UInt8) (h : ∀ j, j < ps.length → (ps.getD j Lp.zero).key ≠ key) : rawL ps key = none := by
  unfold rawL
  rw [List.find?_eq_none.2 ?_]
  · rfl
  · intro p hp
    obtain ⟨j, hj, rfl⟩ := List.getElem_of_mem hp
    have := h j hj
    rw [getD_eq hj] at this
    simpa using this
/-- what Raw and Get tell. -/
def gotv (o : Option Li) : Value := .agg #[.int .i64 (o.getD Li.zero).k, .string ⟨(o.getD Li.zero).s.toArray⟩, .slice (o.getD Li.zero).aF (o.getD Li.zero).fs.length (o.getD Li.zero).cF, .slice (o.getD Li.zero).aL (o.getD Li.zero).ws.length (o.getD Li.zero).cL, .int .i64 (o.getD Li.zero).x, .bool o.isSome]
theorem rawL_ok {w : World} {ps : List Lp} (h : ∀ p ∈ ps, p.Ok w) (key : List UInt8) : ((rawL ps key).getD Li.zero).Ok w := by
  unfold rawL
  cases hf : ps.find? fun p => decide (p.key = key) with
  | none => exact Li.zero_ok w
  | some p => exact (h p (List.mem_of_find?_eq_some hf)).2

end Go.Proofs.YtahmddopbmjepaaDoor
