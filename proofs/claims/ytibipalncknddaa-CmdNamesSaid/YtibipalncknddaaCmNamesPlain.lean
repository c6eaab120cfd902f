/- Plain: the names of all commands, rising. No program in it. -/
import Derived.Test.YtibipalncknddaaCmPlain
namespace Go.Proofs.Ytibipalncknddaa
namespace Cm

theorem names_len : names.length = 54 := by decide +kernel
theorem names_sorted : names.Pairwise (fun a b => a ≤ b) := by decide +kernel
theorem names_perm : (tab.map Sp.nm).Perm names := by decide +kernel
theorem names_short : ∀ s ∈ names, s.length ≤ 9 := by decide +kernel

theorem sort_names : (tab.map Sp.nm).mergeSort (fun x y => decide (x ≤ y)) = names := by
  refine List.Perm.eq_of_pairwise (le := fun a b : List UInt8 => a ≤ b) ?_ ?_ names_sorted ((List.mergeSort_perm _ _).trans names_perm)
  · intro a b _ _ h1 h2
    exact List.le_antisymm h1 h2
  · have := List.pairwise_mergeSort (le := fun x y : List UInt8 => decide (x ≤ y)) (fun a b c h1 h2 => by simp only [decide_eq_true_eq] at *; exact List.le_trans h1 h2) (fun a b => by
      simp only [Bool.or_eq_true, decide_eq_true_eq]
      exact List.le_total a b) (tab.map Sp.nm)
    simpa using this

end Cm
end Go.Proofs.Ytibipalncknddaa
