/- The contracts of cmd.mayCount, cmd.keys, cmd.commands. -/
import Derived.Test.YtokcbcjonbjkgaaGreatDoorCmBase
namespace Go.Proofs.YtokcbcjonbjkgaaGreatDoor
open Go.RowKit Go.Shelf
attribute [local go_sem] Oper.semAt_some

theorem Cm.countOk_few {s : Cm.Sp} {n : Nat} (h : (n : Int) < s.least) : Cm.countOk s n = false := by
  unfold Cm.countOk
  simp [h]
theorem Cm.countOk_many {s : Cm.Sp} {n : Nat} (h : 0 < s.most) (h2 : s.most < n) : Cm.countOk s n = false := by
  unfold Cm.countOk
  simp [h, h2]
theorem Cm.countOk_rest {s : Cm.Sp} {n : Nat} (h : s.least ≤ n) (h2 : 0 < s.most → (n : Int) ≤ s.most) : Cm.countOk s n =
    (if s.nm = [77, 83, 69, 84] ∨ s.nm = [77, 83, 69, 84, 78, 88] then n % 2 == 1 else if s.nm = [72, 83, 69, 84] then n % 2 == 0 else true) := by
  unfold Cm.countOk
  have e1 : decide ((n : Int) < s.least) = false := by simp; omega
  have e2 : (decide (0 < s.most) && decide (s.most < (n : Int))) = false := by
    rw [Bool.and_eq_false_iff]
    by_cases h0 : 0 < s.most
    · right; simp; exact h2 h0
    · left; simp; omega
  rw [e1, e2]
  simp

set_option maxRecDepth 100000 in
set_option maxHeartbeats 1000000 in
theorem mayCount_few (s : Cm.Sp) (n : Nat) (w : World) (h : (n : Int) < s.least) :
    Calls Tryz.prog 37 #[spV s, .int .i64 n] w fun e w' => e = .returned (.bool false) ∧ Below w.heap.size w w' := by
  obtain ⟨nm, least, most, first, last, step, wr⟩ := s
  simp only [spV] at *
  go_enter Tryz.func37, Tryz.ntmps37
  go_wp2
  go_ret
  exact ⟨rfl, (Below.refl _ _).alloc (Nat.le_refl _) _⟩

set_option maxRecDepth 100000 in
set_option maxHeartbeats 1000000 in
theorem mayCount_many (s : Cm.Sp) (n : Nat) (w : World) (h0 : s.least ≤ n) (h : 0 < s.most) (h2 : s.most < n) :
    Calls Tryz.prog 37 #[spV s, .int .i64 n] w fun e w' => e = .returned (.bool false) ∧ Below w.heap.size w w' := by
  obtain ⟨nm, least, most, first, last, step, wr⟩ := s
  simp only [spV] at *
  go_enter Tryz.func37, Tryz.ntmps37
  go_wp2
  go_ret
  exact ⟨rfl, (Below.refl _ _).alloc (Nat.le_refl _) _⟩

/-- the number of words parts. -/
def restB (nm : List UInt8) (n : Nat) : Bool := if nm = [77, 83, 69, 84] ∨ nm = [77, 83, 69, 84, 78, 88] then n % 2 == 1 else if nm = [72, 83, 69, 84] then n % 2 == 0 else true

theorem cmRet_bool {a b : Bool} (h : a = b) : Ending.returned (.bool a) = .returned (.bool b) := by rw [h]
theorem par1 {n : Nat} : ((n : Int) % 2 == 1) = (n % 2 == 1) := by
  rw [Bool.eq_iff_iff]
  simp
  omega
theorem par0 {n : Nat} : ((n : Int) % 2 == 0) = (n % 2 == 0) := by
  rw [Bool.eq_iff_iff]
  simp
  omega

set_option maxRecDepth 100000 in
set_option maxHeartbeats 1000000 in
theorem mayCount_rest (s : Cm.Sp) (n : Nat) (w : World) (h0 : s.least ≤ n) (hn : n ≤ 1000000) (h : s.most ≤ 0 ∨ (0 < s.most ∧ (n : Int) ≤ s.most)) :
    Calls Tryz.prog 37 #[spV s, .int .i64 n] w fun e w' => e = .returned (.bool (restB s.nm n)) ∧ Below w.heap.size w w' := by
  obtain ⟨nm, least, most, first, last, step, wr⟩ := s
  simp only [spV] at *
  have m2 : Hid (∀ b, b = ((n : Int) % 2 == 1) → b = (n % 2 == 1)) := Lib.hid fun b h => h.trans par1
  have m3 : Hid (∀ b, b = ((n : Int) % 2 == 0) → b = (n % 2 == 0)) := Lib.hid fun b h => h.trans par0
  have hn' : (n : Int) ≤ 1000000 := by omega
  by_cases h1 : nm = [77, 83, 69, 84]
  · have hr : restB nm n = (n % 2 == 1) := by unfold restB; rw [if_pos (.inl h1)]
    have HR := Lib.hid hr
    clear hr
    subst h1
    rcases h with h | ⟨h, h'⟩
    all_goals
      go_enter Tryz.func37, Tryz.ntmps37
      go_wp2
      go_ret
      exact ⟨by rw [HR.out]; exact cmRet_bool (m2.out _ rfl), (Below.refl _ _).alloc (Nat.le_refl _) _⟩
  · by_cases h2 : nm = [77, 83, 69, 84, 78, 88]
    · have hr : restB nm n = (n % 2 == 1) := by unfold restB; rw [if_pos (.inr h2)]
      have HR := Lib.hid hr
      clear hr h1
      subst h2
      rcases h with h | ⟨h, h'⟩
      all_goals
        go_enter Tryz.func37, Tryz.ntmps37
        go_wp2
        go_ret
        exact ⟨by rw [HR.out]; exact cmRet_bool (m2.out _ rfl), (Below.refl _ _).alloc (Nat.le_refl _) _⟩
    · by_cases h3 : nm = [72, 83, 69, 84]
      · have hr : restB nm n = (n % 2 == 0) := by unfold restB; rw [if_neg (by exact fun h => h.elim h1 h2), if_pos h3]
        have HR := Lib.hid hr
        clear hr h1 h2
        subst h3
        rcases h with h | ⟨h, h'⟩
        all_goals
          go_enter Tryz.func37, Tryz.ntmps37
          go_wp2
          go_ret
          exact ⟨by rw [HR.out]; exact cmRet_bool (m3.out _ rfl), (Below.refl _ _).alloc (Nat.le_refl _) _⟩
      · have hr : restB nm n = true := by unfold restB; rw [if_neg (by exact fun h => h.elim h1 h2), if_neg h3]
        have HR := Lib.hid hr
        have e1 : (nm == [77, 83, 69, 84]) = false := by simpa using h1
        have e2 : (nm == [77, 83, 69, 84, 78, 88]) = false := by simpa using h2
        have e3 : (nm == [72, 83, 69, 84]) = false := by simpa using h3
        clear hr h1 h2 h3
        rcases h with h | ⟨h, h'⟩
        all_goals
          go_enter Tryz.func37, Tryz.ntmps37
          go_wp2
          go_ret
          exact ⟨by rw [HR.out]; rfl, (Below.refl _ _).alloc (Nat.le_refl _) _⟩

theorem cmMayCount_any (s : Cm.Sp) (n : Nat) (w : World) (hn : n ≤ 1000000) :
    Calls Tryz.prog 37 #[spV s, .int .i64 n] w fun e w' => e = .returned (.bool (Cm.countOk s n)) ∧ Below w.heap.size w w' := by
  by_cases h : (n : Int) < s.least
  · rw [Cm.countOk_few h]; exact mayCount_few s n w h
  · by_cases h2 : 0 < s.most ∧ s.most < n
    · rw [Cm.countOk_many h2.1 h2.2]; exact mayCount_many s n w (by omega) h2.1 h2.2
    · rw [Cm.countOk_rest (by omega) (by omega)]; exact mayCount_rest s n w (by omega) hn (by omega)

set_option maxHeartbeats 1000000 in
/-- the iterator over a call's keys; its two boxes. -/
theorem keysIter_any (s : Cm.Sp) (a : Option Addr) (len cap : Nat) (w : World) :
    CallsIn Fence.wide 0 Tryz.prog 38 #[spV s, .slice a len cap] w fun e w' => e = .returned (.func (.func 50) #[] #[.pointer (some ⟨w.heap.size, 0, none⟩), .pointer (some ⟨w.heap.size + 1, 0, none⟩)]) ∧
      w' = (w.alloc (.cells (spL s).toArray 76)).alloc (.cells #[.slice a len cap] 31) := by
  simp only [spV, spL]
  refine callsIn_of_wp Tryz.func38 rfl trivial ?_ rfl
  simp only [Tryz.ntmps38, List.size_toArray, List.length_cons, List.length_nil, Nat.reduceAdd, Nat.reduceSub, Array.replicate_succ, Array.replicate_zero, List.push_toArray, List.append_toArray, List.nil_append, List.cons_append]
  gi_wp2
  go_ret
  exact ⟨rfl, rfl⟩

set_option maxHeartbeats 1000000 in
theorem commands_any (w : World) :
    CallsIn Fence.wide 0 Tryz.prog 48 #[] w fun e w' => e = .returned (.func (.func 62) #[] #[]) ∧ w' = w := by
  refine callsIn_of_wp Tryz.func48 rfl trivial ?_ rfl
  simp only [Tryz.ntmps48, List.size_toArray, List.length_nil, Nat.reduceSub, Array.replicate_succ, Array.replicate_zero, List.push_toArray, List.append_toArray, List.nil_append]
  gi_wp2
  go_ret
  exact ⟨rfl, rfl⟩
end Go.Proofs.YtokcbcjonbjkgaaGreatDoor
