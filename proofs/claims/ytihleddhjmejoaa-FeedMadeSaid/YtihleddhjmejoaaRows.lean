/-
  No cell of these rows narrows 'for every input' (looked for: loops, veiled, ifaces, maps, wideKeys, modest, calm, conditions, laid).
  DERIVED. THE GIVEN ROWS OF THIS SEAT. 4 by the template 'for every input the law returns true; each argument reads behind the call as it read before'; 0 by the template 'total and deterministic' (their statements: YtihleddhjmejoaaTotals.lean).
  GIVEN WITH THE SEED: the statements are not yours to turn. If you find one false, say at which input.
  Laid BY PROGRAM, IN A SANDBOX (cutbox-rows.mjs): the forced cells as the released guide's own fill.sh prints them over the translation acedceb3b55053c9… (all of the seat's roots in one cut). By AI agents, Wed Nov 11 2026. No macro, syntax, notation, axiom, sorry.
-/
import Derived.Test.YtihleddhjmejoaaChecked
import GoSem.Claim
import GoSem.ClaimJoined
import GoSem.ClaimMapViews
import Derived.JoinedTies
import Derived.KernelRfl
namespace Go.Proofs.Ytihleddhjmejoaa
/- THE CELL 'sum', in the pinned program and in every row, IS THE sha256 OF THE DUMP (.gsa) THAT YtihleddhjmejoaaProg.lean LOADS. Nothing in Lean hashes anything: it is a label: what it is worth is what the hold of that sum in a sandbox is worth. -/
noncomputable def Try.pinned : Pinned := { name := "ytihleddhjmejoaa", sum := "acedceb3b55053c9f12f54136bd3b7a86d8badefd9472567119f6d5b07db6503", checked := Try.checked }
namespace Rows
def none {H : Type} : Left H := { results := [], args := [] }

/-- 'caravanlaw15.FeedAll': WHATEVER THE INPUT: true; the input reads as it did. -/
def feedAllSpec : ChangeSpec := { name := "feedAll", fn := fun _ => fun
  | [d1, d2, d3, d4, d5, d6] => { results := [.lit (.bool true)], args := [d1, d2, d3, d4, d5, d6] }
  | _ => none }
def feedAllRow : OpenClaim := { program := "ytihleddhjmejoaa", sum := "acedceb3b55053c9f12f54136bd3b7a86d8badefd9472567119f6d5b07db6503", func := "caravan/caravanlaw15.FeedAll", spec := "feedAll", inPlace := ["internal/bytealg.abigen_runtime_cmpstring"], unfollowed := true, recurses := true, apart := false }
def FeedAllSaid : Prop := feedAllRow.holds Try.pinned (OpenSpec.ofChange feedAllSpec)

/-- ITS FALSE NEIGHBOUR: 'it returns false'. Refute it at one input. -/
def feedAllWrong : ChangeSpec := { name := "feedAll", fn := fun _ => fun
  | [d1, d2, d3, d4, d5, d6] => { results := [.lit (.bool false)], args := [d1, d2, d3, d4, d5, d6] }
  | _ => none }
def FeedAllWrongFalsely : Prop := feedAllRow.holds Try.pinned (OpenSpec.ofChange feedAllWrong)

/-- 'caravanlaw15.FeedMade': WHATEVER THE INPUT: true; the input reads as it did. -/
def feedMadeSpec : ChangeSpec := { name := "feedMade", fn := fun _ => fun
  | [d1, d2, d3, d4, d5] => { results := [.lit (.bool true)], args := [d1, d2, d3, d4, d5] }
  | _ => none }
def feedMadeRow : OpenClaim := { program := "ytihleddhjmejoaa", sum := "acedceb3b55053c9f12f54136bd3b7a86d8badefd9472567119f6d5b07db6503", func := "caravan/caravanlaw15.FeedMade", spec := "feedMade", inPlace := ["internal/bytealg.abigen_runtime_cmpstring"], unfollowed := true, recurses := true, apart := false }
def FeedMadeSaid : Prop := feedMadeRow.holds Try.pinned (OpenSpec.ofChange feedMadeSpec)

/-- ITS FALSE NEIGHBOUR: 'it returns false'. Refute it at one input. -/
def feedMadeWrong : ChangeSpec := { name := "feedMade", fn := fun _ => fun
  | [d1, d2, d3, d4, d5] => { results := [.lit (.bool false)], args := [d1, d2, d3, d4, d5] }
  | _ => none }
def FeedMadeWrongFalsely : Prop := feedMadeRow.holds Try.pinned (OpenSpec.ofChange feedMadeWrong)

/-- 'caravanlaw15.FeedComes': WHATEVER THE INPUT: true; the input reads as it did. -/
def feedComesSpec : ChangeSpec := { name := "feedComes", fn := fun _ => fun
  | [d1, d2, d3, d4, d5] => { results := [.lit (.bool true)], args := [d1, d2, d3, d4, d5] }
  | _ => none }
def feedComesRow : OpenClaim := { program := "ytihleddhjmejoaa", sum := "acedceb3b55053c9f12f54136bd3b7a86d8badefd9472567119f6d5b07db6503", func := "caravan/caravanlaw15.FeedComes", spec := "feedComes", inPlace := ["internal/bytealg.abigen_runtime_cmpstring"], unfollowed := true, recurses := true, apart := false }
def FeedComesSaid : Prop := feedComesRow.holds Try.pinned (OpenSpec.ofChange feedComesSpec)

/-- ITS FALSE NEIGHBOUR: 'it returns false'. Refute it at one input. -/
def feedComesWrong : ChangeSpec := { name := "feedComes", fn := fun _ => fun
  | [d1, d2, d3, d4, d5] => { results := [.lit (.bool false)], args := [d1, d2, d3, d4, d5] }
  | _ => none }
def FeedComesWrongFalsely : Prop := feedComesRow.holds Try.pinned (OpenSpec.ofChange feedComesWrong)

/-- 'caravanlaw15.FeedKeeps': WHATEVER THE INPUT: true; the input reads as it did. -/
def feedKeepsSpec : ChangeSpec := { name := "feedKeeps", fn := fun _ => fun
  | [d1, d2] => { results := [.lit (.bool true)], args := [d1, d2] }
  | _ => none }
def feedKeepsRow : OpenClaim := { program := "ytihleddhjmejoaa", sum := "acedceb3b55053c9f12f54136bd3b7a86d8badefd9472567119f6d5b07db6503", func := "caravan/caravanlaw15.FeedKeeps", spec := "feedKeeps", unfollowed := true, recurses := true, apart := false }
def FeedKeepsSaid : Prop := feedKeepsRow.holds Try.pinned (OpenSpec.ofChange feedKeepsSpec)

/-- ITS FALSE NEIGHBOUR: 'it returns false'. Refute it at one input. -/
def feedKeepsWrong : ChangeSpec := { name := "feedKeeps", fn := fun _ => fun
  | [d1, d2] => { results := [.lit (.bool false)], args := [d1, d2] }
  | _ => none }
def FeedKeepsWrongFalsely : Prop := feedKeepsRow.holds Try.pinned (OpenSpec.ofChange feedKeepsWrong)

/- THE SECOND FORM. 'bulk': how many values and letters a reading holds, each counted each time it is reached (what is shared counts as often as it is met; a slice's spare places count too). A statement '..UptoSaid' is the law's where the arguments, and the package variables that the reading takes, are together of bulk at most 1048576: NARROWER than '..Said'. Prove '..Said' where nothing that the law and all that it calls make is longer than what came in: it says more and counts as full. Else prove '..UptoSaid'. A law counts once. -/
mutual
def uptoBulk {H : Type} : DataW H → Nat
  | .lit (.string bytes) => bytes.length + 1
  | .lit _ => 1
  | .nil => 1
  | .ptr d => uptoBulk d + 1
  | .slice elems spare => uptoBulkAll elems + uptoBulkAll spare + 1
  | .agg parts => uptoBulkAll parts + 1
  | .iface _ d => uptoBulk d + 1
  | .map entries => uptoBulkEntries entries + 1
  | .held _ => 1
def uptoBulkAll {H : Type} : List (DataW H) → Nat
  | [] => 0
  | d :: r => uptoBulk d + uptoBulkAll r
def uptoBulkEntries {H : Type} : List (Lit × DataW H) → Nat
  | [] => 0
  | x :: r => uptoBulkEntry x + uptoBulkEntries r
def uptoBulkEntry {H : Type} : Lit × DataW H → Nat
  | (.string bytes, d) => bytes.length + uptoBulk d + 1
  | (_, d) => uptoBulk d + 1
 end
def uptoSmall : (H : Type) → List (DataW H) → Bool := fun _ ds => decide (uptoBulkAll ds ≤ 1048576)
def OpenSpec.upto (s : _root_.Go.ChangeSpec) : _root_.Go.OpenSpec := { _root_.Go.OpenSpec.ofChange s with cond := some uptoSmall }

/-- 'caravanlaw15.FeedAll', WHERE WHAT IT READS IS OF BULK AT MOST 1048576: true; the input reads as it did. -/
def feedAllUptoRow : OpenClaim := { program := "ytihleddhjmejoaa", sum := "acedceb3b55053c9f12f54136bd3b7a86d8badefd9472567119f6d5b07db6503", func := "caravan/caravanlaw15.FeedAll", spec := "feedAll", inPlace := ["internal/bytealg.abigen_runtime_cmpstring"], unfollowed := true, recurses := true, apart := false, narrowed := true }
def FeedAllUptoSaid : Prop := feedAllUptoRow.holds Try.pinned (OpenSpec.upto feedAllSpec)

/-- 'caravanlaw15.FeedMade', WHERE WHAT IT READS IS OF BULK AT MOST 1048576: true; the input reads as it did. -/
def feedMadeUptoRow : OpenClaim := { program := "ytihleddhjmejoaa", sum := "acedceb3b55053c9f12f54136bd3b7a86d8badefd9472567119f6d5b07db6503", func := "caravan/caravanlaw15.FeedMade", spec := "feedMade", inPlace := ["internal/bytealg.abigen_runtime_cmpstring"], unfollowed := true, recurses := true, apart := false, narrowed := true }
def FeedMadeUptoSaid : Prop := feedMadeUptoRow.holds Try.pinned (OpenSpec.upto feedMadeSpec)

/-- 'caravanlaw15.FeedComes', WHERE WHAT IT READS IS OF BULK AT MOST 1048576: true; the input reads as it did. -/
def feedComesUptoRow : OpenClaim := { program := "ytihleddhjmejoaa", sum := "acedceb3b55053c9f12f54136bd3b7a86d8badefd9472567119f6d5b07db6503", func := "caravan/caravanlaw15.FeedComes", spec := "feedComes", inPlace := ["internal/bytealg.abigen_runtime_cmpstring"], unfollowed := true, recurses := true, apart := false, narrowed := true }
def FeedComesUptoSaid : Prop := feedComesUptoRow.holds Try.pinned (OpenSpec.upto feedComesSpec)

/-- 'caravanlaw15.FeedKeeps', WHERE WHAT IT READS IS OF BULK AT MOST 1048576: true; the input reads as it did. -/
def feedKeepsUptoRow : OpenClaim := { program := "ytihleddhjmejoaa", sum := "acedceb3b55053c9f12f54136bd3b7a86d8badefd9472567119f6d5b07db6503", func := "caravan/caravanlaw15.FeedKeeps", spec := "feedKeeps", unfollowed := true, recurses := true, apart := false, narrowed := true }
def FeedKeepsUptoSaid : Prop := feedKeepsUptoRow.holds Try.pinned (OpenSpec.upto feedKeepsSpec)

end Rows
end Go.Proofs.Ytihleddhjmejoaa
