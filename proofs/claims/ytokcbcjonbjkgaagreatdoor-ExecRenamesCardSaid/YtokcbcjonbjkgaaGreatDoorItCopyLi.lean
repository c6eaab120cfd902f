/- item.Copy at an item with the places of its lists. -/
import Derived.Test.YtokcbcjonbjkgaaGreatDoorSpcFind
import Derived.Test.YtokcbcjonbjkgaaGreatDoorItCopyAny
namespace Go.Proofs.YtokcbcjonbjkgaaGreatDoor
open Go.RowKit Go.Shelf
set_option linter.unusedVariables false

theorem copy_li (k x : Int) (s : List UInt8) (aF : Option Addr) (fs : List (List UInt8 × List UInt8)) (cF : Nat) (aL : Option Addr) (ws : List (List UInt8)) (cL : Nat) (w : World) (hok : (⟨k, s, aF, fs, cF, aL, ws, cL, x⟩ : Li).Ok w) (hsm : (⟨k, s, fs, ws, x⟩ : It.I).Sm) :
    Calls Tryz.prog 35 #[.agg #[.int .i64 k, .string ⟨s.toArray⟩, .slice aF fs.length cF, .slice aL ws.length cL, .int .i64 x]] w fun e W => ∃ bF dF bL dL, e = .returned (.agg #[.int .i64 k, .string ⟨s.toArray⟩, .slice bF fs.length dF, .slice bL ws.length dL, .int .i64 x]) ∧ (⟨k, s, bF, fs, dF, bL, ws, dL, x⟩ : Li).Ok W ∧ Below w.heap.size w W ∧ ∀ o : Option Nat, (∀ g, o = some g → g < w.heap.size) → (⟨k, s, bF, fs, dF, bL, ws, dL, x⟩ : Li).Far o :=
  (copy_any k x s aF cF fs aL cL ws w hok.2.1 hok.2.2.1 hsm.2.1 hsm.2.2.1 hsm.1 hsm.2.2.2.1 hsm.2.2.2.2).mono fun e W h => h.li hsm.1 hsm.2.2.2.1 hsm.2.2.2.2

end Go.Proofs.YtokcbcjonbjkgaaGreatDoor
