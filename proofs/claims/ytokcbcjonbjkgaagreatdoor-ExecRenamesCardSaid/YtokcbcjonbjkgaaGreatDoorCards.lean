/-
  DERIVED. GIVEN WITH THE SEED: THE CARDS: each row of YtokcbcjonbjkgaaGreatDoorRows.lean that lists a variable, with what it lists TIED to the program's text (the seventh form; the later family's looks); each row that meets fmt, with fmt's text TOLD by the authors' own Lean function (tested against real Go, not proved from fmt's source: count such statements apart). THE CARD IS WHAT COUNTS. Prove the row's statement (the work); the ties are given (YtokcbcjonbjkgaaGreatDoorTie.lean); close each card by the builder's one call (the guide's Derived/Test/ToyasCard.lean, 'card_holds'). Laid BY PROGRAM, IN A SANDBOX (cutbox-door.mjs). By AI agents, Wed Nov 11 2026. No macro, syntax, notation, axiom, sorry.
-/
import Derived.Test.YtokcbcjonbjkgaaGreatDoorRows
import GoSem.ClaimSeven
namespace Go.Proofs.YtokcbcjonbjkgaaGreatDoor
namespace Rows

/-- THE TIED CARD OF 'caravanlaw12.ExecTexts'. -/
def execTextsCard : Claim7 := { stood := { row := execTextsRow, standIns := [], harness := (true, "bcc1893c61f51396d045e089d403d593dc1f20750136db49c7682ce08d750bb3"), looks := false }, kinds := [], alts := [], laidByText := true, laidKinds := [.data, .data, .data], laidTests := true, laidLooks := .later }
def ExecTextsCardSaid : Prop := Claim7.holds Tryz.pinned (.plain (OpenSpec.ofChange execTextsSpec)) execTextsCard

/-- THE TIED CARD OF 'caravanlaw12.ExecTimes'. -/
def execTimesCard : Claim7 := { stood := { row := execTimesRow, standIns := [], harness := (true, "bcc1893c61f51396d045e089d403d593dc1f20750136db49c7682ce08d750bb3"), looks := false }, kinds := [], alts := [], laidByText := true, laidKinds := [.data, .data, .data], laidTests := true, laidLooks := .later }
def ExecTimesCardSaid : Prop := Claim7.holds Tryz.pinned (.plain (OpenSpec.ofChange execTimesSpec)) execTimesCard

/-- THE TIED CARD OF 'caravanlaw12.ExecLists'. -/
def execListsCard : Claim7 := { stood := { row := execListsRow, standIns := [], harness := (true, "bcc1893c61f51396d045e089d403d593dc1f20750136db49c7682ce08d750bb3"), looks := false }, kinds := [], alts := [], laidByText := true, laidKinds := [.data, .data, .data], laidTests := true, laidLooks := .later }
def ExecListsCardSaid : Prop := Claim7.holds Tryz.pinned (.plain (OpenSpec.ofChange execListsSpec)) execListsCard

/-- THE TIED CARD OF 'caravanlaw12.ExecTypes'. -/
def execTypesCard : Claim7 := { stood := { row := execTypesRow, standIns := [], harness := (true, "bcc1893c61f51396d045e089d403d593dc1f20750136db49c7682ce08d750bb3"), looks := false }, kinds := [], alts := [], laidByText := true, laidKinds := [.data, .data, .data], laidTests := true, laidLooks := .later }
def ExecTypesCardSaid : Prop := Claim7.holds Tryz.pinned (.plain (OpenSpec.ofChange execTypesSpec)) execTypesCard

/-- THE TIED CARD OF 'caravanlaw12.ExecRenames'. -/
def execRenamesCard : Claim7 := { stood := { row := execRenamesRow, standIns := [], harness := (true, "bcc1893c61f51396d045e089d403d593dc1f20750136db49c7682ce08d750bb3"), looks := false }, kinds := [], alts := [], laidByText := true, laidKinds := [.data, .data, .data], laidTests := true, laidLooks := .later }
def ExecRenamesCardSaid : Prop := Claim7.holds Tryz.pinned (.plain (OpenSpec.ofChange execRenamesSpec)) execRenamesCard

/-- THE SECOND FORM's CARD OF 'caravanlaw12.ExecTexts'. -/
def execTextsUptoCard : Claim7 := { stood := { row := execTextsUptoRow, standIns := [], harness := (true, "bcc1893c61f51396d045e089d403d593dc1f20750136db49c7682ce08d750bb3"), looks := false }, kinds := [], alts := [], laidByText := true, laidKinds := [.data, .data, .data], laidTests := true, laidLooks := .later }
def ExecTextsUptoCardSaid : Prop := Claim7.holds Tryz.pinned (.plain (OpenSpec.upto execTextsSpec)) execTextsUptoCard

/-- THE SECOND FORM's CARD OF 'caravanlaw12.ExecTimes'. -/
def execTimesUptoCard : Claim7 := { stood := { row := execTimesUptoRow, standIns := [], harness := (true, "bcc1893c61f51396d045e089d403d593dc1f20750136db49c7682ce08d750bb3"), looks := false }, kinds := [], alts := [], laidByText := true, laidKinds := [.data, .data, .data], laidTests := true, laidLooks := .later }
def ExecTimesUptoCardSaid : Prop := Claim7.holds Tryz.pinned (.plain (OpenSpec.upto execTimesSpec)) execTimesUptoCard

/-- THE SECOND FORM's CARD OF 'caravanlaw12.ExecLists'. -/
def execListsUptoCard : Claim7 := { stood := { row := execListsUptoRow, standIns := [], harness := (true, "bcc1893c61f51396d045e089d403d593dc1f20750136db49c7682ce08d750bb3"), looks := false }, kinds := [], alts := [], laidByText := true, laidKinds := [.data, .data, .data], laidTests := true, laidLooks := .later }
def ExecListsUptoCardSaid : Prop := Claim7.holds Tryz.pinned (.plain (OpenSpec.upto execListsSpec)) execListsUptoCard

/-- THE SECOND FORM's CARD OF 'caravanlaw12.ExecTypes'. -/
def execTypesUptoCard : Claim7 := { stood := { row := execTypesUptoRow, standIns := [], harness := (true, "bcc1893c61f51396d045e089d403d593dc1f20750136db49c7682ce08d750bb3"), looks := false }, kinds := [], alts := [], laidByText := true, laidKinds := [.data, .data, .data], laidTests := true, laidLooks := .later }
def ExecTypesUptoCardSaid : Prop := Claim7.holds Tryz.pinned (.plain (OpenSpec.upto execTypesSpec)) execTypesUptoCard

/-- THE SECOND FORM's CARD OF 'caravanlaw12.ExecRenames'. -/
def execRenamesUptoCard : Claim7 := { stood := { row := execRenamesUptoRow, standIns := [], harness := (true, "bcc1893c61f51396d045e089d403d593dc1f20750136db49c7682ce08d750bb3"), looks := false }, kinds := [], alts := [], laidByText := true, laidKinds := [.data, .data, .data], laidTests := true, laidLooks := .later }
def ExecRenamesUptoCardSaid : Prop := Claim7.holds Tryz.pinned (.plain (OpenSpec.upto execRenamesSpec)) execRenamesUptoCard
end Rows
end Go.Proofs.YtokcbcjonbjkgaaGreatDoor
