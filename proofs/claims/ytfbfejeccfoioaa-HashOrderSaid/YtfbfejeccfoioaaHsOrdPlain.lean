/- Fields that are set by numbers, in either order. No program in it. -/
import Derived.Test.YtfbfejeccfoioaaHsPlain
import Derived.Test.YtfbfejeccfoioaaHsGet
namespace Go.Proofs.Ytfbfejeccfoioaa
namespace Hs
open Mk

/-- a name by a number. -/
def nm (b : UInt8) : K := [UInt8.ofNat (97 + b.toNat % 10)]
def ordL (l : List UInt8) : List F := l.foldl (fun x b => set x (nm b) [118]) []
theorem ordL_nil : ordL [] = [] := rfl
theorem ordL_snoc (l : List UInt8) (b : UInt8) : ordL (l ++ [b]) = set (ordL l) (nm b) [118] := by simp [ordL, List.foldl_append]
theorem snoc_ind {α : Type} {P : List α → Prop} (h0 : P []) (hs : ∀ l p, P l → P (l ++ [p])) : ∀ l, P l := fun l => by
  have h : ∀ r : List α, P r.reverse := by
    intro r
    induction r with
    | nil => exact h0
    | cons a r ih => rw [List.reverse_cons]; exact hs _ _ ih
  simpa using h l.reverse
theorem ordL_up (l : List UInt8) : upF (ordL l) := by
  induction l using snoc_ind with
  | h0 => exact List.Pairwise.nil
  | hs l b ih => rw [ordL_snoc]; exact set_up _ _ ih
theorem ordL_len (l : List UInt8) : (ordL l).length ≤ l.length := by
  induction l using snoc_ind with
  | h0 => exact Nat.le_refl _
  | hs l b ih =>
    rw [ordL_snoc]
    have := set_le (ordL l) (nm b) [118]
    simp
    omega
theorem ordL_ok (l : List UInt8) : ∀ x ∈ ordL l, OkF x := by
  induction l using snoc_ind with
  | h0 => intro x hx; simp [ordL] at hx
  | hs l b ih =>
    intro x hx
    rw [ordL_snoc] at hx
    rcases set_mem hx with rfl | hx
    · exact ⟨by simp [nm], by simp⟩
    · exact ih x hx
theorem ordL_get (l : List UInt8) (k : K) : get (ordL l) k = if k ∈ l.map nm then some [118] else none := by
  induction l using snoc_ind with
  | h0 => simp [ordL, get]
  | hs l b ih =>
    rw [ordL_snoc, get_set, ih]
    by_cases h : k = nm b
    · rw [if_pos h, if_pos (by simp [h])]
    · rw [if_neg h]
      by_cases h2 : k ∈ l.map nm
      · rw [if_pos h2, if_pos (by rw [List.map_append]; exact List.mem_append_left _ h2)]
      · rw [if_neg h2, if_neg (by rw [List.map_append]; simp only [List.mem_append, List.map_cons, List.map_nil, List.mem_singleton]; rintro (h3 | h3); exact h2 h3; exact h h3)]
theorem ordL_rev (l : List UInt8) : ordL l.reverse = ordL l := by
  refine ext (ordL_up _) (ordL_up _) fun k => ?_
  rw [ordL_get, ordL_get]
  have : k ∈ l.reverse.map nm ↔ k ∈ l.map nm := by rw [List.map_reverse, List.mem_reverse]
  by_cases h : k ∈ l.map nm
  · rw [if_pos h, if_pos (this.2 h)]
  · rw [if_neg h, if_neg fun e => h (this.1 e)]

/-- two other fields, in either order. -/
theorem two_orders {X : List F} (hX : upF X) (a b u v : K) (huv : u ≠ v) : decide (set (set X a u) b v = set (set X b v) a u) = !(a == b) := by
  have h1 := set_up b v (set_up a u hX)
  have h2 := set_up a u (set_up b v hX)
  by_cases h : a = b
  · subst h
    rw [show (a == a) = true by simp, Bool.not_true, decide_eq_false_iff_not]
    intro e
    have := congrArg (fun l => get l a) e
    simp only [get_set, if_pos] at this
    exact huv (Option.some.inj this).symm
  · rw [show (a == b) = false by simpa using h, Bool.not_false, decide_eq_true_eq]
    refine ext h1 h2 fun k => ?_
    simp only [get_set]
    by_cases hb : k = b
    · rw [if_pos hb, if_neg fun e => h (e.symm.trans hb), if_pos hb]
    · rw [if_neg hb, if_neg hb]
/-- a field set twice. -/
theorem twice_get (X : List F) (a u v : K) : getP (set (set X a u) a v) a = (v, true) := by
  unfold getP
  rw [get_set, if_pos rfl]
theorem twice_len {X : List F} (hX : upF X) (a u v : K) : (set (set X a u) a v).length = (set X a v).length := by
  have : set (set X a u) a v = set X a v := by
    refine ext (set_up a v (set_up a u hX)) (set_up a v hX) fun k => ?_
    simp only [get_set]
    by_cases h : k = a
    · rw [if_pos h, if_pos h]
    · rw [if_neg h, if_neg h, if_neg h]
  rw [this]
end Hs
end Go.Proofs.Ytfbfejeccfoioaa
