/- The laws' example. -/
import Derived.Test.YtdhcgclchdnmfaaTxSub
namespace Go.Proofs.Ytdhcgclchdnmfaa
open Go.RowKit Go.Shelf
set_option linter.unusedVariables false

set_option maxHeartbeats 1000000 in
theorem awake_any (w : World) : Calls Try.prog 8 #[] w fun e W => e = .returned (.bool true) ∧ Below w.heap.size w W := by
  have hs : Hid (∀ W, Calls Try.prog 9 #[.string ⟨#[97, 98, 99]⟩, .int .i64 (-2), .int .i64 (-1)] W fun e W' => e = .returned (.string ⟨#[98, 99]⟩) ∧ Below W.heap.size W W') := Lib.hid fun W => sub_any [97, 98, 99] (-2) (-1) W (by decide) (by decide) (by decide) (by decide) (by decide)
  go_enter Try.func8, Try.ntmps8
  go_wp2_with (go_at_call 9; refine (hs.out _).mono ?_; rintro e w1 ⟨rfl, hb⟩; have HBL := Lib.hid hb; clear hb)
  go_ret
  exact ⟨rfl, HBL.out⟩
end Go.Proofs.Ytdhcgclchdnmfaa
