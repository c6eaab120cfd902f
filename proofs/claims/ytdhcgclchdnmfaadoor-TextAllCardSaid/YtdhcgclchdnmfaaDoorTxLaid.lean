/- What the rows of this seat list of package-level variables: the fact that the walks ask, and a world for the witness. -/
import Derived.Test.YtdhcgclchdnmfaaDoorTxAdd
import Derived.Test.YtdhcgclchdnmfaaDoorCards
import Derived.ProofKit
import Derived.Deep.DeepHandedRow
import Derived.Lib.LaidTab
import Derived.Stop.LaidErr
namespace Go.Proofs.YtdhcgclchdnmfaaDoor
open Go.ChangeShapes Go.WideShapes Go.ChangeAt Go.RowKit

theorem lw_tab : Tryd.prog.globalNamed "internal/strconv.uint64pow10" = some 1 := by kernel_rfl
theorem lw_type : (Tryd.prog.globals[1]?).map (·.type) = some 79 := by kernel_rfl
theorem lw_cells : Tryd.prog.cellsOf 79 = 20 := by kernel_rfl
theorem lw_cell : Tryd.prog.cellsOf 41 = 1 := by kernel_rfl

theorem tab_of_laid {W : World} (h : laidMetH Tryd.prog Rows.textAddsRow.laid W) : Tab W := by
  have h1 : laidMet Tryd.prog Rows.textAddsRow.laid W := h
  exact Lib.tabIs_of_head lw_tab lw_type Tryd.underlying79 Tryd.underlying41 lw_cell lw_cells (laidMet.tail (laidMet.tail h1))

/-- The numbers of a listed datum, in their order. -/
def flatNums : List (DataW Unit) → List Value
  | [] => []
  | .lit (.int k n) :: r => .int k n :: flatNums r
  | .agg [.lit (.int k n), .lit (.int k' n')] :: r => .int k n :: .int k' n' :: flatNums r
  | _ :: r => flatNums r
def putNums (d : DataW Unit) : Obj → Obj
  | .cells _ t z => match d with
    | .agg l => .cells (flatNums l).toArray t z
    | _ => .cells #[] t z
  | o => o

noncomputable def laidWorld (os : Os) : World :=
  { World.holding Tryd.prog os ⟨#[], #[], []⟩ with heap := ((((World.holding Tryd.prog os ⟨#[], #[], []⟩).heap.modify 1 (putNums Rows.laid_internal_strconv_uint64pow10)).modify 2 (putNums Rows.laid_math_bits_deBruijn32tab)).modify 3 (putNums Rows.laid_math_bits_deBruijn64tab)) }

theorem laid_met (os : Os) (args : Array Value) : laidMet Tryd.prog Rows.textAddsRow.laid ((laidWorld os).forCall (fun _ _ => 0) ⟨#[], args, []⟩).memory :=
  laidMet_of_run' 8 (by kernel_rfl) (by kernel_rfl)
end Go.Proofs.YtdhcgclchdnmfaaDoor
