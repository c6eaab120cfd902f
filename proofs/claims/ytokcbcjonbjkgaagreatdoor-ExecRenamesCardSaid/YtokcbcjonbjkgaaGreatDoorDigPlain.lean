/- Decimals of numbers, plain. -/
namespace Go.Proofs.YtokcbcjonbjkgaaGreatDoor
namespace Dig

/-- the decimal of a number. -/
def digs (u : Nat) : List UInt8 := if u < 10 then [UInt8.ofNat (48 + u)] else digs (u / 10) ++ [UInt8.ofNat (48 + u % 10)]
termination_by u
decreasing_by omega

/-- .. with a sign. -/
def dec (n : Int) : List UInt8 := if n < 0 then 45 :: digs (-n).toNat else digs n.toNat

theorem digs_small {u : Nat} (h : u < 10) : digs u = [UInt8.ofNat (48 + u)] := by
  rw [digs, if_pos h]

theorem digs_step {u : Nat} (h : ¬ u < 10) : digs u = digs (u / 10) ++ [UInt8.ofNat (48 + u % 10)] := by
  rw [digs, if_neg h]

theorem digs_len (k : Nat) : ∀ u, u < 10 ^ (k + 1) → (digs u).length ≤ k + 1 := by
  induction k with
  | zero =>
    intro u h
    rw [digs_small (by omega)]
    simp
  | succ k ih =>
    intro u h
    by_cases hu : u < 10
    · rw [digs_small hu]; simp
    · rw [digs_step hu, List.length_append]
      have h2 : u / 10 < 10 ^ (k + 1) := by
        rw [Nat.pow_succ] at h
        exact Nat.div_lt_of_lt_mul (by rw [Nat.mul_comm]; exact h)
      have := ih _ h2
      simp; omega

theorem digs_len20 {u : Nat} (h : u ≤ 9223372036854775808) : (digs u).length ≤ 19 := digs_len 18 u (by omega)

end Dig
end Go.Proofs.YtokcbcjonbjkgaaGreatDoor
