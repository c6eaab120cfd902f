/- Plain mathematics of runs of slots: what 'joined' makes of parts that come one by one. No program in it. -/
import Derived.Test.YtchladbjhodkoaaSpPlain
namespace Go.Proofs.Ytchladbjhodkoaa
namespace Sp

/-- a span that denotes slots, each of them a slot. -/
abbrev V := { s : S // 0 ≤ s.1 ∧ s.1 ≤ s.2 ∧ s.2 < 16384 }

def jn (r p : V) : V := ⟨(r.1.1, max r.1.2 p.1.2), by have := r.2; have := p.2; simp only; omega⟩

/-- one part more: what has been handed out, the run that is still open. -/
def jstep (s : List V × Option V) (p : V) : List V × Option V :=
  match s.2 with
  | none => (s.1, some p)
  | some r => if p.1.1 ≤ r.1.2 + 1 then (s.1, some (jn r p)) else (s.1 ++ [r], some p)

def jst (l : List V) : List V × Option V := l.foldl jstep ([], none)
def joinL (l : List V) : List V := (jst l).1 ++ (jst l).2.toList

theorem jst_nil : jst [] = ([], none) := rfl
theorem jst_snoc (l : List V) (p : V) : jst (l ++ [p]) = jstep (jst l) p := by simp [jst]

theorem snoc_ind {α : Type} {P : List α → Prop} (h0 : P []) (hs : ∀ l p, P l → P (l ++ [p])) : ∀ l, P l := fun l => by
  have h : ∀ r : List α, P r.reverse := by
    intro r
    induction r with
    | nil => exact h0
    | cons a r ih => rw [List.reverse_cons]; exact hs _ _ ih
  simpa using h l.reverse

theorem jst_len (l : List V) : (jst l).1.length + (if (jst l).2.isSome then 1 else 0) ≤ l.length := by
  induction l using snoc_ind with
  | h0 => simp [jst_nil]
  | hs l p ih =>
    rw [jst_snoc]
    unfold jstep
    split
    · rename_i h
      simp [h] at ih ⊢
      omega
    · rename_i r h
      simp [h] at ih
      split <;> simp <;> omega

theorem joinL_none {l : List V} (h : (jst l).2 = none) : joinL l = (jst l).1 := by simp [joinL, h]
theorem joinL_some {l : List V} {r : V} (h : (jst l).2 = some r) : joinL l = (jst l).1 ++ [r] := by simp [joinL, h]

/-- the part of a span that denotes slots. -/
def clip (s : S) : Option V := if h : max s.1 0 ≤ min s.2 16383 then some ⟨(max s.1 0, min s.2 16383), by simp only; omega⟩ else none
def clipL (l : List S) : List S := (l.filterMap clip).map (·.1)

theorem clip_yes {s : S} (h : max s.1 0 ≤ min s.2 16383) : clip s = some ⟨(max s.1 0, min s.2 16383), by simp only; omega⟩ := dif_pos h
theorem clip_no {s : S} (h : ¬ max s.1 0 ≤ min s.2 16383) : clip s = none := dif_neg h

theorem clipL_take {l : List S} {k : Nat} (hk : k < l.length) : clipL (l.take (k + 1)) = clipL (l.take k) ++ ((clip (l.getD k (0, 0))).map (·.1)).toList := by
  unfold clipL
  rw [List.take_succ_eq_append_getElem hk, List.filterMap_append, List.map_append]
  have e : l.getD k (0, 0) = l[k] := by simp [List.getD, hk]
  rw [e]
  congr 1
  cases h : clip l[k] <;> simp [h]

theorem clipL_len (l : List S) : (clipL l).length ≤ l.length := by
  unfold clipL
  rw [List.length_map]
  exact List.length_filterMap_le _ _

end Sp
end Go.Proofs.Ytchladbjhodkoaa
