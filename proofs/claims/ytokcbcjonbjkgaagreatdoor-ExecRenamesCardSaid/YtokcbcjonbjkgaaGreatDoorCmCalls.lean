/- The contracts of cmd.Keys, Check, Find outside of any loop. -/
import Derived.Test.YtokcbcjonbjkgaaGreatDoorCmCheck
import Derived.Test.YtokcbcjonbjkgaaGreatDoorCmKeysDev
import Derived.Test.YtokcbcjonbjkgaaGreatDoorWds
import Derived.Deep.RegionHeld3
namespace Go.Proofs.YtokcbcjonbjkgaaGreatDoor
open Go.RowKit Go.Shelf
attribute [local go_sem] Oper.semAt_some
set_option linter.unusedVariables false
set_option linter.unusedSimpArgs false

theorem keys_c (a : Option Addr) (cap : Nat) (ws : List (List UInt8)) (w : World) (hW : Wds w a cap ws) : Calls Tryz.prog 27 #[.slice a ws.length cap] w (KOut w (Cm.keysOf ws)) := callsIn_wide.1 (keysDev_any a cap ws w hW)
theorem check_c (a : Option Addr) (cap : Nat) (ws : List (List UInt8)) (w : World) (hW : Wds w a cap ws) : Calls Tryz.prog 25 #[.slice a ws.length cap] w fun e W' => e = .returned (chkV ws) ∧ Below w.heap.size w W' := callsIn_wide.1 (check_any a cap ws w hW)
theorem find_c (n : List UInt8) (w : World) (hn : n.length ≤ 9223372036854775807) : Calls Tryz.prog 36 #[.string ⟨n.toArray⟩] w fun e W' => e = .returned (findV n) ∧ Below w.heap.size w W' := callsIn_wide.1 (cmFind_any n w hn)
end Go.Proofs.YtokcbcjonbjkgaaGreatDoor
