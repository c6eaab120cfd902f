/- Texts that are no decimals. No program in it. -/
import Derived.Test.YtdhcgclchdnmfaaDoorTxNumPlain
namespace Go.Proofs.YtdhcgclchdnmfaaDoor
namespace Tx

theorem digs_all {u : Nat} {c : UInt8} (h : c ∈ Dig.digs u) : isD c = true := by
  have := (digs_val u).2
  unfold digB at this
  rw [List.all_eq_true] at this
  exact this c h
/-- a byte of a decimal is a digit or a minus. -/
theorem dec_all {n : Int} {c : UInt8} (h : c ∈ Dig.dec n) : c = 45 ∨ isD c = true := by
  unfold Dig.dec at h
  split at h
  · rcases List.mem_cons.1 h with h | h
    · exact .inl h
    · exact .inr (digs_all h)
  · exact .inr (digs_all h)
theorem dec_ne (n : Int) : Dig.dec n ≠ [] := by
  unfold Dig.dec
  split
  · simp
  · exact digs_ne _
theorem num_bad_byte {s : List UInt8} {c : UInt8} (h : c ∈ s) (h1 : c ≠ 45) (h2 : isD c = false) : numS s = (0, false) := by
  refine num_no ?_
  cases hp : (numS s).2 with
  | false => rfl
  | true =>
    exfalso
    have := (num_is (s := s) (n := (numS s).1) (Prod.ext rfl hp)).1
    rw [this] at h
    rcases dec_all h with h | h
    · exact h1 h
    · rw [h] at h2; cases h2
theorem num_head0 {t : List UInt8} (h : t ≠ []) : numS (48 :: t) = (0, false) := by
  refine numS_bad ?_
  have hn : negB (48 :: t) = false := rfl
  have ht : tailD (48 :: t) = 48 :: t := by unfold tailD; rw [hn]; rfl
  unfold badHead
  rw [ht]
  have h2 : ¬ (48 :: t = [48]) := by simp [h]
  simp [h2]
theorem num_minus0 (t : List UInt8) : numS (45 :: 48 :: t) = (0, false) := by
  refine numS_bad ?_
  have hn : negB (45 :: 48 :: t) = true := rfl
  have ht : tailD (45 :: 48 :: t) = 48 :: t := by unfold tailD; rw [hn]; rfl
  unfold badHead
  rw [ht]
  have h2 : ¬ (45 :: 48 :: t = [48]) := by intro h; cases h
  simp
theorem num_minus2 (t : List UInt8) : numS (45 :: 45 :: t) = (0, false) := by
  refine not_digit (k := 0) (by show 0 < (45 :: t).length; simp) ?_
  show isD 45 = false
  decide

/-- the texts that the law asks for. -/
def wrong (k : Nat) (s : List UInt8) : List UInt8 :=
  match k with
  | 0 => 43 :: s
  | 1 => 32 :: s
  | 2 => s ++ [32]
  | 3 => 48 :: s
  | 4 => 45 :: 48 :: s
  | 5 => s ++ [46]
  | 6 => 45 :: 45 :: s
  | 7 => s ++ [95, 49]
  | _ => 48 :: 120 :: s
theorem wrong_no (k : Nat) (s : List UInt8) (h : s ≠ []) : numS (wrong k s) = (0, false) := by
  unfold wrong
  split
  · exact num_bad_byte (c := 43) (by simp) (by decide) (by decide)
  · exact num_bad_byte (c := 32) (by simp) (by decide) (by decide)
  · exact num_bad_byte (c := 32) (by simp) (by decide) (by decide)
  · exact num_head0 h
  · exact num_minus0 s
  · exact num_bad_byte (c := 46) (by simp) (by decide) (by decide)
  · exact num_minus2 s
  · exact num_bad_byte (c := 95) (by simp) (by decide) (by decide)
  · exact num_bad_byte (c := 120) (by simp) (by decide) (by decide)
theorem wrong_len (k : Nat) (s : List UInt8) : (wrong k s).length ≤ s.length + 2 := by
  unfold wrong
  split <;> simp
end Tx
end Go.Proofs.YtdhcgclchdnmfaaDoor
