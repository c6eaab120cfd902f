/- Words' encoding is that of an array of texts (3.2). -/
import Derived.Test.YtbkhnnjjpelfcaaGreatDoorDpPlain
import Derived.Test.YtbkhnnjjpelfcaaGreatDoorRpPlain
namespace Go.Proofs.YtbkhnnjjpelfcaaGreatDoor
namespace Dp

/-- words as a reply. -/
abbrev wordsA (ws : List Bs) : Rp.R := .mk 6 [] 0 (ws.map fun s => .mk 4 s 0 [])
theorem encL_words : ∀ ws : List Bs, Rp.encL (ws.map fun s => Rp.R.mk 4 s 0 []) = wordsL ws
  | [] => by simp [Rp.encL, wordsL]
  | w :: ws => by
    have h := encL_words ws
    rw [List.map_cons, Rp.encL, h]
    simp only [wordsL, List.flatMap_cons]
    congr 1
    unfold Rp.enc Rp.own Rp.encL wordE Rp.crlf
    simp only [dec_nat]
    simp
theorem enc_words (ws : List Bs) : Rp.enc (wordsA ws) = encW ws := by
  unfold Rp.enc
  rw [encL_words]
  unfold Rp.own encW Rp.crlf
  simp only [dec_nat, List.length_map]
  simp
end Dp
end Go.Proofs.YtbkhnnjjpelfcaaGreatDoor
