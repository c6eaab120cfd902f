/- The walk of ItemParts. -/
import Derived.Test.YtdnonginlbjcoaaItemPartsWalk0
import Derived.Test.YtdnonginlbjcoaaItemPartsWalk1
namespace Go.Proofs.Ytdnonginlbjcoaa
open Go.RowKit Go.Shelf
set_option linter.unusedVariables false
set_option linter.unusedSimpArgs false

theorem itemParts_walk (kind which : Int) (w : World) (h0 : 0 ≤ kind) (h1 : kind ≤ 255) (h2 : 0 ≤ which) (h3 : which ≤ 255) :
    Calls Try.prog 7 #[.int .u8 kind, .int .u8 which] w fun e W' => e = .returned (.bool true) ∧ Below w.heap.size w W' := by
  have k : kind % 4 = 0 ∨ kind % 4 = 1 ∨ kind % 4 = 2 ∨ kind % 4 = 3 := by omega
  have m : which % 3 = 0 ∨ which % 3 = 1 ∨ which % 3 = 2 := by omega
  rcases k with k | k | k | k <;> rcases m with m | m | m
  · exact parts_00 kind which w h0 h1 h2 h3 k m
  · exact parts_01 kind which w h0 h1 h2 h3 k m
  · exact parts_02 kind which w h0 h1 h2 h3 k m
  · exact parts_10 kind which w h0 h1 h2 h3 k m
  · exact parts_11 kind which w h0 h1 h2 h3 k m
  · exact parts_12 kind which w h0 h1 h2 h3 k m
  · exact parts_20 kind which w h0 h1 h2 h3 k m
  · exact parts_21 kind which w h0 h1 h2 h3 k m
  · exact parts_22 kind which w h0 h1 h2 h3 k m
  · exact parts_30 kind which w h0 h1 h2 h3 k m
  · exact parts_31 kind which w h0 h1 h2 h3 k m
  · exact parts_32 kind which w h0 h1 h2 h3 k m
end Go.Proofs.Ytdnonginlbjcoaa
