/-
  DERIVED. GIVEN WITH THE SEED: THE CARDS: each row of YtcjbfgkmpoebgaaDoorRows.lean that lists a variable, with what it lists TIED to the program's text (the seventh form; the later family's looks); each row that meets fmt, with fmt's text TOLD by the authors' own Lean function (tested against real Go, not proved from fmt's source: count such statements apart). THE CARD IS WHAT COUNTS. Prove the row's statement (the work); the ties are given (YtcjbfgkmpoebgaaDoorTie.lean); close each card by the builder's one call (the guide's Derived/Test/ToyasCard.lean, 'card_holds'). Laid BY PROGRAM, IN A SANDBOX (cutbox-door.mjs). By AI agents, Wed Nov 11 2026. No macro, syntax, notation, axiom, sorry.
-/
import Derived.Test.YtcjbfgkmpoebgaaDoorRows
import GoSem.ClaimSeven
namespace Go.Proofs.YtcjbfgkmpoebgaaDoor
namespace Rows

/-- THE TIED CARD OF 'caravanlaw3.RespAll'. -/
def respAllCard : Claim7 := { stood := { row := respAllRow, standIns := [], harness := (true, "320cd8971cb20fbe09b9fb7ee2dbe2913bbd780b6cbcf45cdf2648b86932737d"), looks := true }, kinds := [], alts := [], laidByText := true, laidKinds := [.data, .data, .data, .data, .sentinel, .sentinel, .pinned], laidTests := true, laidLooks := .later }
def RespAllCardSaid : Prop := Claim7.holds Tryd.pinned (.plain (OpenSpec.ofChange respAllSpec)) respAllCard

/-- THE TIED CARD OF 'caravanlaw3.RespBytes'. -/
def respBytesCard : Claim7 := { stood := { row := respBytesRow, standIns := [], harness := (true, "320cd8971cb20fbe09b9fb7ee2dbe2913bbd780b6cbcf45cdf2648b86932737d"), looks := true }, kinds := [], alts := [], laidByText := true, laidKinds := [.data, .data, .data, .data, .sentinel, .sentinel, .pinned], laidTests := true, laidLooks := .later }
def RespBytesCardSaid : Prop := Claim7.holds Tryd.pinned (.plain (OpenSpec.ofChange respBytesSpec)) respBytesCard

/-- THE TIED CARD OF 'caravanlaw3.RespBack'. -/
def respBackCard : Claim7 := { stood := { row := respBackRow, standIns := [], harness := (true, "320cd8971cb20fbe09b9fb7ee2dbe2913bbd780b6cbcf45cdf2648b86932737d"), looks := true }, kinds := [], alts := [], laidByText := true, laidKinds := [.data, .data, .data, .data, .sentinel, .sentinel, .pinned], laidTests := true, laidLooks := .later }
def RespBackCardSaid : Prop := Claim7.holds Tryd.pinned (.plain (OpenSpec.ofChange respBackSpec)) respBackCard

/-- THE TIED CARD OF 'caravanlaw3.RespWords'. -/
def respWordsCard : Claim7 := { stood := { row := respWordsRow, standIns := [], harness := (true, "320cd8971cb20fbe09b9fb7ee2dbe2913bbd780b6cbcf45cdf2648b86932737d"), looks := true }, kinds := [], alts := [], laidByText := true, laidKinds := [.data, .data, .data, .data, .sentinel, .sentinel, .pinned], laidTests := true, laidLooks := .later }
def RespWordsCardSaid : Prop := Claim7.holds Tryd.pinned (.plain (OpenSpec.ofChange respWordsSpec)) respWordsCard

/-- THE TIED CARD OF 'caravanlaw3.RespDeep'. -/
def respDeepCard : Claim7 := { stood := { row := respDeepRow, standIns := [], harness := (true, "320cd8971cb20fbe09b9fb7ee2dbe2913bbd780b6cbcf45cdf2648b86932737d"), looks := true }, kinds := [], alts := [], laidByText := true, laidKinds := [.data, .data, .data, .data, .sentinel, .sentinel, .pinned], laidTests := true, laidLooks := .later }
def RespDeepCardSaid : Prop := Claim7.holds Tryd.pinned (.plain (OpenSpec.ofChange respDeepSpec)) respDeepCard

/-- THE TIED CARD OF 'caravanlaw3.RespSide'. -/
def respSideCard : Claim7 := { stood := { row := respSideRow, standIns := [], harness := (true, "320cd8971cb20fbe09b9fb7ee2dbe2913bbd780b6cbcf45cdf2648b86932737d"), looks := true }, kinds := [], alts := [], laidByText := true, laidKinds := [.data, .data, .data, .data, .sentinel, .sentinel, .pinned], laidTests := true, laidLooks := .later }
def RespSideCardSaid : Prop := Claim7.holds Tryd.pinned (.plain (OpenSpec.ofChange respSideSpec)) respSideCard

/-- THE SECOND FORM's CARD OF 'caravanlaw3.RespAll'. -/
def respAllUptoCard : Claim7 := { stood := { row := respAllUptoRow, standIns := [], harness := (true, "320cd8971cb20fbe09b9fb7ee2dbe2913bbd780b6cbcf45cdf2648b86932737d"), looks := true }, kinds := [], alts := [], laidByText := true, laidKinds := [.data, .data, .data, .data, .sentinel, .sentinel, .pinned], laidTests := true, laidLooks := .later }
def RespAllUptoCardSaid : Prop := Claim7.holds Tryd.pinned (.plain (OpenSpec.upto respAllSpec)) respAllUptoCard

/-- THE SECOND FORM's CARD OF 'caravanlaw3.RespBytes'. -/
def respBytesUptoCard : Claim7 := { stood := { row := respBytesUptoRow, standIns := [], harness := (true, "320cd8971cb20fbe09b9fb7ee2dbe2913bbd780b6cbcf45cdf2648b86932737d"), looks := true }, kinds := [], alts := [], laidByText := true, laidKinds := [.data, .data, .data, .data, .sentinel, .sentinel, .pinned], laidTests := true, laidLooks := .later }
def RespBytesUptoCardSaid : Prop := Claim7.holds Tryd.pinned (.plain (OpenSpec.upto respBytesSpec)) respBytesUptoCard

/-- THE SECOND FORM's CARD OF 'caravanlaw3.RespBack'. -/
def respBackUptoCard : Claim7 := { stood := { row := respBackUptoRow, standIns := [], harness := (true, "320cd8971cb20fbe09b9fb7ee2dbe2913bbd780b6cbcf45cdf2648b86932737d"), looks := true }, kinds := [], alts := [], laidByText := true, laidKinds := [.data, .data, .data, .data, .sentinel, .sentinel, .pinned], laidTests := true, laidLooks := .later }
def RespBackUptoCardSaid : Prop := Claim7.holds Tryd.pinned (.plain (OpenSpec.upto respBackSpec)) respBackUptoCard

/-- THE SECOND FORM's CARD OF 'caravanlaw3.RespWords'. -/
def respWordsUptoCard : Claim7 := { stood := { row := respWordsUptoRow, standIns := [], harness := (true, "320cd8971cb20fbe09b9fb7ee2dbe2913bbd780b6cbcf45cdf2648b86932737d"), looks := true }, kinds := [], alts := [], laidByText := true, laidKinds := [.data, .data, .data, .data, .sentinel, .sentinel, .pinned], laidTests := true, laidLooks := .later }
def RespWordsUptoCardSaid : Prop := Claim7.holds Tryd.pinned (.plain (OpenSpec.upto respWordsSpec)) respWordsUptoCard

/-- THE SECOND FORM's CARD OF 'caravanlaw3.RespDeep'. -/
def respDeepUptoCard : Claim7 := { stood := { row := respDeepUptoRow, standIns := [], harness := (true, "320cd8971cb20fbe09b9fb7ee2dbe2913bbd780b6cbcf45cdf2648b86932737d"), looks := true }, kinds := [], alts := [], laidByText := true, laidKinds := [.data, .data, .data, .data, .sentinel, .sentinel, .pinned], laidTests := true, laidLooks := .later }
def RespDeepUptoCardSaid : Prop := Claim7.holds Tryd.pinned (.plain (OpenSpec.upto respDeepSpec)) respDeepUptoCard

/-- THE SECOND FORM's CARD OF 'caravanlaw3.RespSide'. -/
def respSideUptoCard : Claim7 := { stood := { row := respSideUptoRow, standIns := [], harness := (true, "320cd8971cb20fbe09b9fb7ee2dbe2913bbd780b6cbcf45cdf2648b86932737d"), looks := true }, kinds := [], alts := [], laidByText := true, laidKinds := [.data, .data, .data, .data, .sentinel, .sentinel, .pinned], laidTests := true, laidLooks := .later }
def RespSideUptoCardSaid : Prop := Claim7.holds Tryd.pinned (.plain (OpenSpec.upto respSideSpec)) respSideUptoCard
end Rows
end Go.Proofs.YtcjbfgkmpoebgaaDoor
