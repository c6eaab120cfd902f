/- What Make makes may be. -/
import Derived.Test.YtkmdpmkjcfccnaaItMake
namespace Go.Proofs.Ytkmdpmkjcfccnaa
open Go.RowKit Go.Shelf
set_option linter.unusedVariables false
set_option linter.unusedSimpArgs false

namespace Mk
theorem mkK_exp (K e : Int) (t : List UInt8) : (mkK K e t).exp = e := by
  unfold mkK
  split
  · rfl
  · split
    · rfl
    · split <;> rfl
theorem eOf_bd (x : Int) (h0 : 0 ≤ x) (h1 : x ≤ 255) : 0 ≤ eOf x ∧ eOf x ≤ 255 := by unfold eOf; split <;> omega
theorem mk_exp (ns : List UInt8) (x : Int) (h0 : 0 ≤ x) (h1 : x ≤ 255) : 0 ≤ (mk ns x).exp ∧ (mk ns x).exp ≤ 255 := by
  cases ns with
  | nil => exact ⟨Int.le_refl 0, show (0 : Int) ≤ 255 by decide⟩
  | cons n r =>
    by_cases hr : r = [] ∧ n.toNat % 4 ≠ 0
    · rw [show mk (n :: r) x = ⟨1, Dig.dec (n.toNat : Int), [], [], eOf x⟩ from if_pos hr]
      exact eOf_bd x h0 h1
    · rw [show mk (n :: r) x = mkK (1 + ((n.toNat % 4 : Nat) : Int)) (eOf x) (r.take 8) from if_neg hr, mkK_exp]
      exact eOf_bd x h0 h1
end Mk

theorem make_may (ns : List UInt8) (x : Int) (h0 : 0 ≤ x) (h1 : x ≤ 255) : It.mayB (Mk.mk ns x) = true := by
  have hx : 0 ≤ (Mk.mk ns x).exp ∧ (Mk.mk ns x).exp ≤ 255 := Mk.mk_exp ns x h0 h1
  have := Mk.mk_may ns x (Mk.mk ns x).exp hx.1 (by omega)
  exact this

end Go.Proofs.Ytkmdpmkjcfccnaa
