/-
  DERIVED. GIVEN WITH THE SEED: THE CARDS: each row of YtbkhnnjjpelfcaaGreatDoorRows.lean that lists a variable, with what it lists TIED to the program's text (the seventh form; the later family's looks); each row that meets fmt, with fmt's text TOLD by the authors' own Lean function (tested against real Go, not proved from fmt's source: count such statements apart). THE CARD IS WHAT COUNTS. Prove the row's statement (the work); the ties are given (YtbkhnnjjpelfcaaGreatDoorTie.lean); close each card by the builder's one call (the guide's Derived/Test/ToyasCard.lean, 'card_holds'). Laid BY PROGRAM, IN A SANDBOX (cutbox-door.mjs). By AI agents, Wed Nov 11 2026. No macro, syntax, notation, axiom, sorry.
-/
import Derived.Test.YtbkhnnjjpelfcaaGreatDoorRows
import GoSem.ClaimSeven
namespace Go.Proofs.YtbkhnnjjpelfcaaGreatDoor
namespace Rows

/-- THE TIED CARD OF 'caravanlaw10.DumpAll'. -/
def dumpAllCard : Claim7 := { stood := { row := dumpAllRow, standIns := [], harness := (true, "11102aeaa57ee1a53974c48e8c13f60b1f59742edad3965ce18e5e23e7c4edf1"), looks := true }, kinds := [], alts := [], laidByText := true, laidKinds := [.data, .data, .data, .data, .sentinel, .sentinel, .pinned], laidTests := true, laidLooks := .later }
def DumpAllCardSaid : Prop := Claim7.holds Tryz.pinned (.plain (OpenSpec.ofChange dumpAllSpec)) dumpAllCard

/-- THE TIED CARD OF 'caravanlaw10.DumpBack'. -/
def dumpBackCard : Claim7 := { stood := { row := dumpBackRow, standIns := [], harness := (true, "11102aeaa57ee1a53974c48e8c13f60b1f59742edad3965ce18e5e23e7c4edf1"), looks := true }, kinds := [], alts := [], laidByText := true, laidKinds := [.data, .data, .data, .data, .sentinel, .sentinel, .pinned], laidTests := true, laidLooks := .later }
def DumpBackCardSaid : Prop := Claim7.holds Tryz.pinned (.plain (OpenSpec.ofChange dumpBackSpec)) dumpBackCard

/-- THE TIED CARD OF 'caravanlaw10.DumpApart'. -/
def dumpApartCard : Claim7 := { stood := { row := dumpApartRow, standIns := [], harness := (true, "11102aeaa57ee1a53974c48e8c13f60b1f59742edad3965ce18e5e23e7c4edf1"), looks := true }, kinds := [], alts := [], laidByText := true, laidKinds := [.data, .data, .data, .data, .sentinel, .sentinel, .pinned], laidTests := true, laidLooks := .later }
def DumpApartCardSaid : Prop := Claim7.holds Tryz.pinned (.plain (OpenSpec.ofChange dumpApartSpec)) dumpApartCard

/-- THE SECOND FORM's CARD OF 'caravanlaw10.DumpAll'. -/
def dumpAllUptoCard : Claim7 := { stood := { row := dumpAllUptoRow, standIns := [], harness := (true, "11102aeaa57ee1a53974c48e8c13f60b1f59742edad3965ce18e5e23e7c4edf1"), looks := true }, kinds := [], alts := [], laidByText := true, laidKinds := [.data, .data, .data, .data, .sentinel, .sentinel, .pinned], laidTests := true, laidLooks := .later }
def DumpAllUptoCardSaid : Prop := Claim7.holds Tryz.pinned (.plain (OpenSpec.upto dumpAllSpec)) dumpAllUptoCard

/-- THE SECOND FORM's CARD OF 'caravanlaw10.DumpBack'. -/
def dumpBackUptoCard : Claim7 := { stood := { row := dumpBackUptoRow, standIns := [], harness := (true, "11102aeaa57ee1a53974c48e8c13f60b1f59742edad3965ce18e5e23e7c4edf1"), looks := true }, kinds := [], alts := [], laidByText := true, laidKinds := [.data, .data, .data, .data, .sentinel, .sentinel, .pinned], laidTests := true, laidLooks := .later }
def DumpBackUptoCardSaid : Prop := Claim7.holds Tryz.pinned (.plain (OpenSpec.upto dumpBackSpec)) dumpBackUptoCard

/-- THE SECOND FORM's CARD OF 'caravanlaw10.DumpApart'. -/
def dumpApartUptoCard : Claim7 := { stood := { row := dumpApartUptoRow, standIns := [], harness := (true, "11102aeaa57ee1a53974c48e8c13f60b1f59742edad3965ce18e5e23e7c4edf1"), looks := true }, kinds := [], alts := [], laidByText := true, laidKinds := [.data, .data, .data, .data, .sentinel, .sentinel, .pinned], laidTests := true, laidLooks := .later }
def DumpApartUptoCardSaid : Prop := Claim7.holds Tryz.pinned (.plain (OpenSpec.upto dumpApartSpec)) dumpApartUptoCard
end Rows
end Go.Proofs.YtbkhnnjjpelfcaaGreatDoor
