/- Numbers as texts: what the reference's Number tells, as plain functions. No program in it. -/
import Derived.Test.YtokcbcjonbjkgaaGreatDoorDigPlain
namespace Go.Proofs.YtokcbcjonbjkgaaGreatDoor
namespace Tx

/-- the value of digits. -/
def valD (l : List UInt8) : Nat := l.foldl (fun u c => 10 * u + (c.toNat - 48)) 0
def isD (c : UInt8) : Bool := decide (48 ≤ c.toNat) && decide (c.toNat ≤ 57)
def digB (l : List UInt8) : Bool := l.all isD
def negB : List UInt8 → Bool
  | [] => false
  | c :: _ => c == 45
def most (s : List UInt8) : Nat := if negB s then 9223372036854775808 else 9223372036854775807
def tailD (s : List UInt8) : List UInt8 := if negB s then s.drop 1 else s
def numI (s : List UInt8) : Int := if negB s then -(valD (tailD s) : Int) else (valD (tailD s) : Int)
def okB (s : List UInt8) : Bool := digB (tailD s) && decide (valD (tailD s) ≤ most s) && decide (tailD s ≠ []) && decide (Dig.dec (numI s) = s)
/-- the number of a text, if it is one's decimal. -/
def numS (s : List UInt8) : Int × Bool := if okB s then (numI s, true) else (0, false)

theorem valD_snoc (l : List UInt8) (c : UInt8) : valD (l ++ [c]) = 10 * valD l + (c.toNat - 48) := by simp [valD]
theorem fold_le (l : List UInt8) (a : Nat) : a ≤ l.foldl (fun u c => 10 * u + (c.toNat - 48)) a := by
  induction l generalizing a with
  | nil => exact Nat.le_refl _
  | cons c l ih =>
    rw [List.foldl_cons]
    exact Nat.le_trans (by omega) (ih _)
theorem valD_le (l r : List UInt8) : valD l ≤ valD (l ++ r) := by
  unfold valD
  rw [List.foldl_append]
  exact fold_le r _
theorem valD_take (l : List UInt8) (k : Nat) : valD (l.take k) ≤ valD l := by
  have := valD_le (l.take k) (l.drop k)
  rwa [List.take_append_drop] at this
theorem digB_at {l : List UInt8} {k : Nat} (h : k < l.length) (hd : isD (l.getD k 0) = false) : digB l = false := by
  unfold digB
  rw [List.all_eq_false]
  refine ⟨l.getD k 0, ?_, by rw [hd]; decide⟩
  have e : l.getD k 0 = l[k] := by simp [List.getD, h]
  rw [e]
  exact List.getElem_mem h
theorem take_at {l : List UInt8} {k : Nat} (h : k < l.length) : l.take (k + 1) = l.take k ++ [l.getD k 0] := by
  rw [List.take_succ_eq_append_getElem h]
  simp [List.getD, h]
theorem not_digit {s : List UInt8} {k : Nat} (h : k < (tailD s).length) (hd : isD ((tailD s).getD k 0) = false) : numS s = (0, false) := by
  simp [numS, okB, digB_at h hd]
theorem not_fit {s : List UInt8} {k : Nat} (h : k < (tailD s).length) (hd : most s < 10 * valD ((tailD s).take k) + (((tailD s).getD k 0).toNat - 48)) : numS s = (0, false) := by
  have h1 := valD_take (tailD s) (k + 1)
  rw [take_at h, valD_snoc] at h1
  have h2 : decide (valD (tailD s) ≤ most s) = false := decide_eq_false (by omega)
  simp [numS, okB, h2]
theorem num_end {s : List UInt8} (hd : digB (tailD s) = true) (hf : valD (tailD s) ≤ most s) : numS s = if tailD s ≠ [] ∧ Dig.dec (numI s) = s then (numI s, true) else (0, false) := by
  unfold numS okB
  rw [hd, decide_eq_true hf]
  by_cases h1 : tailD s = [] <;> by_cases h2 : Dig.dec (numI s) = s <;> simp [h1, h2]

/-! decimals are told -/
theorem digs_ne (u : Nat) : Dig.digs u ≠ [] := by
  unfold Dig.digs
  split <;> simp
theorem ofNat_digit {k : Nat} (h : k < 10) : (UInt8.ofNat (48 + k)).toNat = 48 + k := by
  simp
  omega
theorem digs_val (u : Nat) : valD (Dig.digs u) = u ∧ digB (Dig.digs u) = true := by
  induction u using Nat.strongRecOn with
  | _ u ih =>
    by_cases h : u < 10
    · rw [Dig.digs_small h]
      have e := ofNat_digit h
      refine ⟨?_, ?_⟩
      · simp only [valD, List.foldl_cons, List.foldl_nil, e]; omega
      · simp only [digB, List.all_cons, List.all_nil, isD, e]; simp; omega
    · rw [Dig.digs_step h]
      have e := ofNat_digit (k := u % 10) (by omega)
      obtain ⟨h1, h2⟩ := ih (u / 10) (by omega)
      refine ⟨?_, ?_⟩
      · rw [valD_snoc, h1, e]; omega
      · unfold digB at h2 ⊢
        rw [List.all_append, h2]
        simp only [List.all_cons, List.all_nil, isD, e]; simp; omega
theorem neg_digs (u : Nat) : negB (Dig.digs u) = false := by
  have h := (digs_val u).2
  cases hd : Dig.digs u with
  | nil => rfl
  | cons c r =>
    rw [hd] at h
    simp only [digB, List.all_cons, Bool.and_eq_true, isD, decide_eq_true_eq] at h
    simp only [negB, beq_eq_false_iff_ne]
    intro e
    rw [e] at h
    simp at h
/-- each number is told by its decimal. -/
theorem num_dec (n : Int) (h1 : -9223372036854775808 ≤ n) (h2 : n ≤ 9223372036854775807) : numS (Dig.dec n) = (n, true) := by
  by_cases hn : n < 0
  · have e : Dig.dec n = 45 :: Dig.digs (-n).toNat := by unfold Dig.dec; rw [if_pos hn]
    have hneg : negB (Dig.dec n) = true := by rw [e]; rfl
    have ht : tailD (Dig.dec n) = Dig.digs (-n).toNat := by unfold tailD; rw [hneg, if_pos rfl, e]; rfl
    have hi : numI (Dig.dec n) = n := by unfold numI; rw [hneg, if_pos rfl, ht, (digs_val _).1]; omega
    have hm : most (Dig.dec n) = 9223372036854775808 := by unfold most; rw [hneg, if_pos rfl]
    rw [num_end (by rw [ht]; exact (digs_val _).2) (by rw [ht, (digs_val _).1, hm]; omega), ht, hi, if_pos ⟨digs_ne _, rfl⟩]
  · have e : Dig.dec n = Dig.digs n.toNat := by unfold Dig.dec; rw [if_neg hn]
    have hneg : negB (Dig.dec n) = false := by rw [e]; exact neg_digs _
    have ht : tailD (Dig.dec n) = Dig.digs n.toNat := by unfold tailD; rw [hneg, if_neg (by simp), e]
    have hi : numI (Dig.dec n) = n := by unfold numI; rw [hneg, if_neg (by simp), ht, (digs_val _).1]; omega
    have hm : most (Dig.dec n) = 9223372036854775807 := by unfold most; rw [hneg, if_neg (by simp)]
    rw [num_end (by rw [ht]; exact (digs_val _).2) (by rw [ht, (digs_val _).1, hm]; omega), ht, hi, if_pos ⟨digs_ne _, rfl⟩]
/-- .. and what is told is its decimal. -/
theorem num_is {s : List UInt8} {n : Int} (h : numS s = (n, true)) : s = Dig.dec n ∧ -9223372036854775808 ≤ n ∧ n ≤ 9223372036854775807 := by
  unfold numS at h
  split at h
  · rename_i ho
    simp only [Prod.mk.injEq, and_true] at h
    subst h
    unfold okB at ho
    simp only [Bool.and_eq_true, decide_eq_true_eq] at ho
    obtain ⟨⟨⟨_, hm⟩, _⟩, hd⟩ := ho
    refine ⟨hd.symm, ?_⟩
    unfold most at hm
    unfold numI
    cases hn : negB s <;> rw [hn] at hm <;> simp at hm ⊢ <;> omega
  · simp at h
theorem num_no {s : List UInt8} (h : (numS s).2 = false) : numS s = (0, false) := by
  unfold numS at h ⊢
  split
  · rename_i ho; rw [if_pos ho] at h; simp at h
  · rfl

/-! Cut, Sub, Put, Add -/
def cutA (n a : Int) : Int := if a < 0 then max 0 (n + a) else a
def cutB (n b : Int) : Int := min (if b < 0 then n + b else b) (n - 1)
def subS (s : List UInt8) (a b : Int) : List UInt8 :=
  if cutB s.length b < cutA s.length a then [] else (s.take (cutB s.length b + 1).toNat).drop (cutA s.length a).toNat
def putOk (a : Int) (v : List UInt8) : Bool := decide (0 ≤ a) && decide (a + v.length ≤ 300)
def putB (s : List UInt8) (k : Nat) (v : List UInt8) : List UInt8 := (s ++ List.replicate (k - s.length) 0).take k ++ v ++ s.drop (k + v.length)
def putS (s : List UInt8) (a : Int) (v : List UInt8) : List UInt8 × Bool := if putOk a v then (if v = [] then (s, true) else (putB s a.toNat v, true)) else ([], false)
def addS (s : List UInt8) (n : Int) : List UInt8 × Bool :=
  if (numS s).2 && decide (-9223372036854775808 ≤ (numS s).1 + n) && decide ((numS s).1 + n ≤ 9223372036854775807) then (Dig.dec ((numS s).1 + n), true) else ([], false)
end Tx
end Go.Proofs.YtokcbcjonbjkgaaGreatDoor
