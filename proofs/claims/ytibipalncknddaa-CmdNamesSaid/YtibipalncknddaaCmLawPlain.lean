/- Plain: the words that the statements build, and what Check and Keys say of them. No program in it. -/
import Derived.Test.YtibipalncknddaaCmPlain
import Derived.Test.YtibipalncknddaaCmNamesPlain
import Derived.Test.YtibipalncknddaaDigPlain
namespace Go.Proofs.Ytibipalncknddaa
namespace Cm

/-- a small number's decimal. -/
def dg (i : Nat) : List UInt8 := if i < 10 then [UInt8.ofNat (48 + i)] else [UInt8.ofNat (48 + i / 10), UInt8.ofNat (48 + i % 10)]

theorem dec_dg {i : Nat} (h : i < 100) : Dig.dec (i : Int) = dg i := by
  have e : Dig.dec (i : Int) = Dig.digs i := by unfold Dig.dec; rw [if_neg (by omega), Int.toNat_natCast]
  rw [e]
  unfold dg
  split
  · rename_i h1; rw [Dig.digs_small h1]
  · rename_i h1; rw [Dig.digs_step h1, Dig.digs_small (by omega)]; rfl

/-- "k" and a number. -/
def kd (i : Nat) : List UInt8 := 107 :: dg i

theorem kd_len {i : Nat} : (kd i).length ≤ 3 := by unfold kd dg; split <;> simp

/-- CmdPairs: the names, the words. -/
def nm7 : List (List UInt8) := [[77, 83, 69, 84], [77, 83, 69, 84, 78, 88], [68, 69, 76], [77, 71, 69, 84], [69, 88, 73, 83, 84, 83], [72, 83, 69, 84], [83, 73, 78, 84, 69, 82]]
def pr7 (j : Nat) : Bool := decide (j < 2) || decide (j = 5)
def pw0 (j : Nat) : List (List UInt8) := nm7.getD j [] :: (if j = 5 then [[107, 101, 121]] else [])
def pwTo (j : Nat) : Nat → List (List UInt8)
  | 0 => pw0 j
  | k + 1 => pwTo j k ++ (if pr7 j then [kd k, [118]] else [kd k])
def kdTo (k : Nat) : List (List UInt8) := (List.range k).map kd

theorem all_range {n : Nat} {p : Nat → Bool} (h : (List.range n).all p = true) {k : Nat} (hk : k < n) : p k = true := List.all_eq_true.1 h k (List.mem_range.2 hk)
theorem all_range2 {n m : Nat} {p : Nat → Nat → Bool} (h : ((List.range n).all fun j => (List.range m).all (p j)) = true) {j k : Nat} (hj : j < n) (hk : k < m) : p j k = true := all_range (all_range (p := fun j => (List.range m).all (p j)) h hj) hk

theorem pairs_check : ((List.range 7).all fun j => (List.range 20).all fun k =>
    (!pr7 j || (checkS (pwTo j (k + 1) ++ [[120]])).isNone) && (if j = 5 then keysOf (pwTo j (k + 1)) == [[107, 101, 121]] else keysOf (pwTo j (k + 1)) == kdTo (k + 1))) = true := by decide +kernel

theorem pairs_odd {j k : Nat} (hj : j < 7) (hk : k < 20) (hp : pr7 j = true) : checkS (pwTo j (k + 1) ++ [[120]]) = none := by
  have h := all_range2 (p := fun j k => (!pr7 j || (checkS (pwTo j (k + 1) ++ [[120]])).isNone) && (if j = 5 then keysOf (pwTo j (k + 1)) == [[107, 101, 121]] else keysOf (pwTo j (k + 1)) == kdTo (k + 1))) pairs_check hj hk
  simp only [hp, Bool.not_true, Bool.false_or, Bool.and_eq_true, Option.isNone_iff_eq_none] at h
  exact h.1
theorem pairs_hset {k : Nat} (hk : k < 20) : keysOf (pwTo 5 (k + 1)) = [[107, 101, 121]] := by
  have h := all_range2 (p := fun j k => (!pr7 j || (checkS (pwTo j (k + 1) ++ [[120]])).isNone) && (if j = 5 then keysOf (pwTo j (k + 1)) == [[107, 101, 121]] else keysOf (pwTo j (k + 1)) == kdTo (k + 1))) pairs_check (show 5 < 7 by omega) hk
  simp only [if_true, Bool.and_eq_true, beq_iff_eq] at h
  exact h.2
theorem pairs_keys {j k : Nat} (hj : j < 7) (hk : k < 20) (h5 : j ≠ 5) : keysOf (pwTo j (k + 1)) = kdTo (k + 1) := by
  have h := all_range2 (p := fun j k => (!pr7 j || (checkS (pwTo j (k + 1) ++ [[120]])).isNone) && (if j = 5 then keysOf (pwTo j (k + 1)) == [[107, 101, 121]] else keysOf (pwTo j (k + 1)) == kdTo (k + 1))) pairs_check hj hk
  simp only [if_neg h5, Bool.and_eq_true, beq_iff_eq] at h
  exact h.2

theorem pwTo_len (j : Nat) : ∀ k, (pwTo j k).length ≤ 2 + 2 * k
  | 0 => by unfold pwTo pw0; split <;> simp
  | k + 1 => by
    have := pwTo_len j k
    unfold pwTo
    split <;> simp <;> omega

theorem nm7_short (j : Nat) : (nm7.getD j []).length ≤ 9 := by
  by_cases h : j < nm7.length
  · rw [getD_eq h]
    exact (show ∀ s ∈ nm7, s.length ≤ 9 by decide +kernel) _ (List.getElem_mem h)
  · simp [List.getD, List.getElem?_eq_none (Nat.le_of_not_lt h)]

theorem pwTo_short (j : Nat) : ∀ k, ∀ s ∈ pwTo j k, s.length ≤ 100
  | 0, s, hs => by
    unfold pwTo pw0 at hs
    rcases List.mem_cons.1 hs with rfl | hs
    · have := nm7_short j; omega
    · split at hs
      · rw [List.mem_singleton.1 hs]; simp
      · simp at hs
  | k + 1, s, hs => by
    unfold pwTo at hs
    rcases List.mem_append.1 hs with hs | hs
    · exact pwTo_short j k s hs
    · have := @kd_len k
      split at hs
      · rcases List.mem_cons.1 hs with rfl | hs
        · omega
        · rw [List.mem_singleton.1 hs]; simp
      · rw [List.mem_singleton.1 hs]; omega

end Cm
end Go.Proofs.Ytibipalncknddaa
