/- Alive, of the program and of the reference. -/
import Derived.Test.YtkmdpmkjcfccnaaWds
import Derived.Test.YtkmdpmkjcfccnaaItPlain
import Derived.Test.YtkmdpmkjcfccnaaItMay
namespace Go.Proofs.Ytkmdpmkjcfccnaa
open Go.RowKit Go.Shelf
attribute [local go_sem] Oper.semAt_some

set_option maxHeartbeats 1000000 in
theorem alive_any (k : Int) (s : List UInt8) (aF : Option Addr) (nF cF : Nat) (aL : Option Addr) (nL cL : Nat) (x n : Int) (w : World) :
    Calls Try.prog 41 #[itv k s aF nF cF aL nL cL x, .int .i64 n] w fun e w' => e = .returned (.bool (decide (x = 0) || decide (n < x))) ∧ Below w.heap.size w w' := by
  unfold itv
  by_cases h0 : x = 0
  · subst h0
    go_enter Try.func41, Try.ntmps41
    go_wp2
    go_ret
    exact ⟨by simp, (Below.refl _ _).alloc (Nat.le_refl _) _⟩
  · by_cases h1 : n < x
    all_goals
      go_enter Try.func41, Try.ntmps41
      go_wp2
      go_ret
      exact ⟨by have e0 : (x == 0) = false := beq_eq_false_iff_ne.2 h0
                simp [e0, h0]; omega, (Below.refl _ _).alloc (Nat.le_refl _) _⟩

set_option maxHeartbeats 1000000 in
theorem refAlive_any (k : Int) (s : List UInt8) (aF : Option Addr) (nF cF : Nat) (aL : Option Addr) (nL cL : Nat) (x n : Int) (w : World) :
    Calls Try.prog 44 #[itv k s aF nF cF aL nL cL x, .int .i64 n] w fun e w' => e = .returned (.bool (decide (x = 0) || decide (n < x))) ∧ Below w.heap.size w w' := by
  unfold itv
  by_cases h0 : x = 0
  · subst h0
    go_enter Try.func44, Try.ntmps44
    go_wp2
    go_ret
    exact ⟨by simp, (Below.refl _ _).alloc (Nat.le_refl _) _⟩
  · by_cases h1 : n < x
    all_goals
      go_enter Try.func44, Try.ntmps44
      go_wp2
      go_ret
      exact ⟨by have e0 : (x == 0) = false := beq_eq_false_iff_ne.2 h0
                simp [e0, h0]; omega, (Below.refl _ _).alloc (Nat.le_refl _) _⟩
end Go.Proofs.Ytkmdpmkjcfccnaa
