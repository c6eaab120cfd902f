/- Alive, of the program and of the reference. -/
import Derived.Test.YtokcbcjonbjkgaaGreatDoorWds
import Derived.Test.YtokcbcjonbjkgaaGreatDoorItPlain
import Derived.Test.YtokcbcjonbjkgaaGreatDoorItMay
namespace Go.Proofs.YtokcbcjonbjkgaaGreatDoor
open Go.RowKit Go.Shelf
attribute [local go_sem] Oper.semAt_some

set_option maxHeartbeats 1000000 in
theorem alive_any (k : Int) (s : List UInt8) (aF : Option Addr) (nF cF : Nat) (aL : Option Addr) (nL cL : Nat) (x n : Int) (w : World) :
    Calls Tryz.prog 30 #[itv k s aF nF cF aL nL cL x, .int .i64 n] w fun e w' => e = .returned (.bool (decide (x = 0) || decide (n < x))) ∧ Below w.heap.size w w' := by
  unfold itv
  by_cases h0 : x = 0
  · subst h0
    go_enter Tryz.func30, Tryz.ntmps30
    go_wp2
    go_ret
    exact ⟨by simp, (Below.refl _ _).alloc (Nat.le_refl _) _⟩
  · by_cases h1 : n < x
    all_goals
      go_enter Tryz.func30, Tryz.ntmps30
      go_wp2
      go_ret
      exact ⟨by have e0 : (x == 0) = false := beq_eq_false_iff_ne.2 h0
                simp [e0, h0]; omega, (Below.refl _ _).alloc (Nat.le_refl _) _⟩

end Go.Proofs.YtokcbcjonbjkgaaGreatDoor
