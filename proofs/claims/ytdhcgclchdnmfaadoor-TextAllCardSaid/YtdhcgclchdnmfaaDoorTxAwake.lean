/- The laws' example. -/
import Derived.Test.YtdhcgclchdnmfaaDoorTxSub
namespace Go.Proofs.YtdhcgclchdnmfaaDoor
open Go.RowKit Go.Shelf
set_option linter.unusedVariables false

set_option maxHeartbeats 1000000 in
theorem awake_any (w : World) : Calls Tryd.prog 6 #[] w fun e W => e = .returned (.bool true) ∧ Below w.heap.size w W := by
  have hs : Hid (∀ W, Calls Tryd.prog 13 #[.string ⟨#[97, 98, 99]⟩, .int .i64 (-2), .int .i64 (-1)] W fun e W' => e = .returned (.string ⟨#[98, 99]⟩) ∧ Below W.heap.size W W') := Lib.hid fun W => sub_any [97, 98, 99] (-2) (-1) W (by decide) (by decide) (by decide) (by decide) (by decide)
  go_enter Tryd.func6, Tryd.ntmps6
  go_wp2_with (go_at_call 13; refine (hs.out _).mono ?_; rintro e w1 ⟨rfl, hb⟩; have HBL := Lib.hid hb; clear hb)
  go_ret
  exact ⟨rfl, HBL.out⟩
end Go.Proofs.YtdhcgclchdnmfaaDoor
