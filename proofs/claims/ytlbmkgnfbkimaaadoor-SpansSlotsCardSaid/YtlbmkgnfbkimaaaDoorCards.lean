/-
  DERIVED. GIVEN WITH THE SEED: THE CARDS: each row of YtlbmkgnfbkimaaaDoorRows.lean that lists a variable, with what it lists TIED to the program's text (the seventh form; the later family's looks); each row that meets fmt, with fmt's text TOLD by the authors' own Lean function (tested against real Go, not proved from fmt's source: count such statements apart). THE CARD IS WHAT COUNTS. Prove the row's statement (the work); the ties are given (YtlbmkgnfbkimaaaDoorTie.lean); close each card by the builder's one call (the guide's Derived/Test/ToyasCard.lean, 'card_holds'). Laid BY PROGRAM, IN A SANDBOX (cutbox-door.mjs). By AI agents, Wed Nov 11 2026. No macro, syntax, notation, axiom, sorry.
-/
import Derived.Test.YtlbmkgnfbkimaaaDoorRows
import GoSem.ClaimSeven
namespace Go.Proofs.YtlbmkgnfbkimaaaDoor
namespace Rows

/-- THE TIED CARD OF 'caravanlaw2.SpansAll'. -/
def spansAllCard : Claim7 := { stood := { row := spansAllRow, standIns := [], harness := (true, "36b39e78f157dc31ab30dbcc91669c8804d5b87cabcca62b0676688ca42bf8c9"), looks := false }, kinds := [], alts := [], laidByText := true, laidKinds := [.data, .data, .data, .data, .pinned], laidTests := true, laidLooks := .later }
def SpansAllCardSaid : Prop := Claim7.holds Tryd.pinned (.plain (OpenSpec.ofChange spansAllSpec)) spansAllCard

/-- THE TIED CARD OF 'caravanlaw2.SpansMix'. -/
def spansMixCard : Claim7 := { stood := { row := spansMixRow, standIns := [], harness := (true, "36b39e78f157dc31ab30dbcc91669c8804d5b87cabcca62b0676688ca42bf8c9"), looks := false }, kinds := [], alts := [], laidByText := true, laidKinds := [.data, .data, .data, .data, .pinned], laidTests := true, laidLooks := .later }
def SpansMixCardSaid : Prop := Claim7.holds Tryd.pinned (.plain (OpenSpec.ofChange spansMixSpec)) spansMixCard

/-- THE TIED CARD OF 'caravanlaw2.SpansTexts'. -/
def spansTextsCard : Claim7 := { stood := { row := spansTextsRow, standIns := [], harness := (true, "36b39e78f157dc31ab30dbcc91669c8804d5b87cabcca62b0676688ca42bf8c9"), looks := false }, kinds := [], alts := [], laidByText := true, laidKinds := [.data, .data, .data, .data, .pinned], laidTests := true, laidLooks := .later }
def SpansTextsCardSaid : Prop := Claim7.holds Tryd.pinned (.plain (OpenSpec.ofChange spansTextsSpec)) spansTextsCard

/-- THE TIED CARD OF 'caravanlaw2.SpansBack'. -/
def spansBackCard : Claim7 := { stood := { row := spansBackRow, standIns := [], harness := (true, "36b39e78f157dc31ab30dbcc91669c8804d5b87cabcca62b0676688ca42bf8c9"), looks := false }, kinds := [], alts := [], laidByText := true, laidKinds := [.data, .data, .data, .data, .pinned], laidTests := true, laidLooks := .later }
def SpansBackCardSaid : Prop := Claim7.holds Tryd.pinned (.plain (OpenSpec.ofChange spansBackSpec)) spansBackCard

/-- THE TIED CARD OF 'caravanlaw2.SpansLaws'. -/
def spansLawsCard : Claim7 := { stood := { row := spansLawsRow, standIns := [], harness := (true, "36b39e78f157dc31ab30dbcc91669c8804d5b87cabcca62b0676688ca42bf8c9"), looks := false }, kinds := [], alts := [], laidByText := true, laidKinds := [.data, .data, .data, .data, .pinned], laidTests := true, laidLooks := .later }
def SpansLawsCardSaid : Prop := Claim7.holds Tryd.pinned (.plain (OpenSpec.ofChange spansLawsSpec)) spansLawsCard

/-- THE TIED CARD OF 'caravanlaw2.SpansSlots'. -/
def spansSlotsCard : Claim7 := { stood := { row := spansSlotsRow, standIns := [], harness := (true, "36b39e78f157dc31ab30dbcc91669c8804d5b87cabcca62b0676688ca42bf8c9"), looks := false }, kinds := [], alts := [], laidByText := true, laidKinds := [.data, .data, .data, .data, .pinned], laidTests := true, laidLooks := .later }
def SpansSlotsCardSaid : Prop := Claim7.holds Tryd.pinned (.plain (OpenSpec.ofChange spansSlotsSpec)) spansSlotsCard

/-- THE TIED CARD OF 'caravanlaw2.SpansRead'. -/
def spansReadCard : Claim7 := { stood := { row := spansReadRow, standIns := [], harness := (true, "36b39e78f157dc31ab30dbcc91669c8804d5b87cabcca62b0676688ca42bf8c9"), looks := false }, kinds := [], alts := [], laidByText := true, laidKinds := [.data, .data, .data, .data, .pinned], laidTests := true, laidLooks := .later }
def SpansReadCardSaid : Prop := Claim7.holds Tryd.pinned (.plain (OpenSpec.ofChange spansReadSpec)) spansReadCard

/-- THE SECOND FORM's CARD OF 'caravanlaw2.SpansAll'. -/
def spansAllUptoCard : Claim7 := { stood := { row := spansAllUptoRow, standIns := [], harness := (true, "36b39e78f157dc31ab30dbcc91669c8804d5b87cabcca62b0676688ca42bf8c9"), looks := false }, kinds := [], alts := [], laidByText := true, laidKinds := [.data, .data, .data, .data, .pinned], laidTests := true, laidLooks := .later }
def SpansAllUptoCardSaid : Prop := Claim7.holds Tryd.pinned (.plain (OpenSpec.upto spansAllSpec)) spansAllUptoCard

/-- THE SECOND FORM's CARD OF 'caravanlaw2.SpansMix'. -/
def spansMixUptoCard : Claim7 := { stood := { row := spansMixUptoRow, standIns := [], harness := (true, "36b39e78f157dc31ab30dbcc91669c8804d5b87cabcca62b0676688ca42bf8c9"), looks := false }, kinds := [], alts := [], laidByText := true, laidKinds := [.data, .data, .data, .data, .pinned], laidTests := true, laidLooks := .later }
def SpansMixUptoCardSaid : Prop := Claim7.holds Tryd.pinned (.plain (OpenSpec.upto spansMixSpec)) spansMixUptoCard

/-- THE SECOND FORM's CARD OF 'caravanlaw2.SpansTexts'. -/
def spansTextsUptoCard : Claim7 := { stood := { row := spansTextsUptoRow, standIns := [], harness := (true, "36b39e78f157dc31ab30dbcc91669c8804d5b87cabcca62b0676688ca42bf8c9"), looks := false }, kinds := [], alts := [], laidByText := true, laidKinds := [.data, .data, .data, .data, .pinned], laidTests := true, laidLooks := .later }
def SpansTextsUptoCardSaid : Prop := Claim7.holds Tryd.pinned (.plain (OpenSpec.upto spansTextsSpec)) spansTextsUptoCard

/-- THE SECOND FORM's CARD OF 'caravanlaw2.SpansBack'. -/
def spansBackUptoCard : Claim7 := { stood := { row := spansBackUptoRow, standIns := [], harness := (true, "36b39e78f157dc31ab30dbcc91669c8804d5b87cabcca62b0676688ca42bf8c9"), looks := false }, kinds := [], alts := [], laidByText := true, laidKinds := [.data, .data, .data, .data, .pinned], laidTests := true, laidLooks := .later }
def SpansBackUptoCardSaid : Prop := Claim7.holds Tryd.pinned (.plain (OpenSpec.upto spansBackSpec)) spansBackUptoCard

/-- THE SECOND FORM's CARD OF 'caravanlaw2.SpansLaws'. -/
def spansLawsUptoCard : Claim7 := { stood := { row := spansLawsUptoRow, standIns := [], harness := (true, "36b39e78f157dc31ab30dbcc91669c8804d5b87cabcca62b0676688ca42bf8c9"), looks := false }, kinds := [], alts := [], laidByText := true, laidKinds := [.data, .data, .data, .data, .pinned], laidTests := true, laidLooks := .later }
def SpansLawsUptoCardSaid : Prop := Claim7.holds Tryd.pinned (.plain (OpenSpec.upto spansLawsSpec)) spansLawsUptoCard

/-- THE SECOND FORM's CARD OF 'caravanlaw2.SpansSlots'. -/
def spansSlotsUptoCard : Claim7 := { stood := { row := spansSlotsUptoRow, standIns := [], harness := (true, "36b39e78f157dc31ab30dbcc91669c8804d5b87cabcca62b0676688ca42bf8c9"), looks := false }, kinds := [], alts := [], laidByText := true, laidKinds := [.data, .data, .data, .data, .pinned], laidTests := true, laidLooks := .later }
def SpansSlotsUptoCardSaid : Prop := Claim7.holds Tryd.pinned (.plain (OpenSpec.upto spansSlotsSpec)) spansSlotsUptoCard

/-- THE SECOND FORM's CARD OF 'caravanlaw2.SpansRead'. -/
def spansReadUptoCard : Claim7 := { stood := { row := spansReadUptoRow, standIns := [], harness := (true, "36b39e78f157dc31ab30dbcc91669c8804d5b87cabcca62b0676688ca42bf8c9"), looks := false }, kinds := [], alts := [], laidByText := true, laidKinds := [.data, .data, .data, .data, .pinned], laidTests := true, laidLooks := .later }
def SpansReadUptoCardSaid : Prop := Claim7.holds Tryd.pinned (.plain (OpenSpec.upto spansReadSpec)) spansReadUptoCard
end Rows
end Go.Proofs.YtlbmkgnfbkimaaaDoor
