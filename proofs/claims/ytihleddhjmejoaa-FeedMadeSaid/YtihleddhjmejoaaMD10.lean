/- The contracts of the reference's bare and MayItem. The reference's MayItem: its two loops. -/
import Derived.Test.YtihleddhjmejoaaMD04
import Derived.Sort.Walk0
import Derived.LoopTactic
namespace Go.Proofs.Ytihleddhjmejoaa
open Go.RowKit Go.Shelf

theorem all_false {n m : Nat} {p : Nat → Bool} (h : m < n) (hp : p m = false) : (List.range n).all p = false := by
  rw [List.all_eq_false]
  exact ⟨m, List.mem_range.2 h, by rw [hp]; simp⟩

set_option maxRecDepth 100000 in
set_option maxHeartbeats 1000000 in
theorem bare_1 (x : Int) (s : List UInt8) (aF : Option Addr) (cF : Nat) (aL : Option Addr) (cL : Nat) (w : World) :
    Calls Try.prog 47 #[itv 1 s aF 0 cF aL 0 cL x] w fun e w' => e = .returned (.bool true) ∧ Below w.heap.size w w' := by
  unfold itv
  go_enter Try.func47, Try.ntmps47
  go_wp2
  go_ret
  exact ⟨rfl, (Below.refl _ _).alloc (Nat.le_refl _) _⟩

set_option maxRecDepth 100000 in
set_option maxHeartbeats 1000000 in
theorem bare_2 (x : Int) (s : List UInt8) (aF : Option Addr) (cF : Nat) (aL : Option Addr) (nL cL : Nat) (w : World) (hnL : nL ≠ 0) :
    Calls Try.prog 47 #[itv 1 s aF 0 cF aL nL cL x] w fun e w' => e = .returned (.bool false) ∧ Below w.heap.size w w' := by
  unfold itv
  have e_nL : ((nL : Int) == 0) = false := by rw [beq_eq_false_iff_ne]; omega
  have f_nL : (0 : Int) < (nL : Int) := by omega
  go_enter Try.func47, Try.ntmps47
  go_wp2
  go_ret
  exact ⟨rfl, (Below.refl _ _).alloc (Nat.le_refl _) _⟩

set_option maxRecDepth 100000 in
set_option maxHeartbeats 1000000 in
theorem bare_3 (x : Int) (s : List UInt8) (aF : Option Addr) (nF cF : Nat) (aL : Option Addr) (nL cL : Nat) (w : World) (hnF : nF ≠ 0) :
    Calls Try.prog 47 #[itv 1 s aF nF cF aL nL cL x] w fun e w' => e = .returned (.bool false) ∧ Below w.heap.size w w' := by
  unfold itv
  have e_nF : ((nF : Int) == 0) = false := by rw [beq_eq_false_iff_ne]; omega
  have f_nF : (0 : Int) < (nF : Int) := by omega
  go_enter Try.func47, Try.ntmps47
  go_wp2
  go_ret
  exact ⟨rfl, (Below.refl _ _).alloc (Nat.le_refl _) _⟩

set_option maxRecDepth 100000 in
set_option maxHeartbeats 1000000 in
theorem bare_4 (x : Int) (s : List UInt8) (aF : Option Addr) (nF cF : Nat) (aL : Option Addr) (nL cL : Nat) (w : World) (hs : ¬ s = []) :
    Calls Try.prog 47 #[itv 2 s aF nF cF aL nL cL x] w fun e w' => e = .returned (.bool false) ∧ Below w.heap.size w w' := by
  unfold itv
  go_enter Try.func47, Try.ntmps47
  go_wp2
  go_ret
  exact ⟨rfl, (Below.refl _ _).alloc (Nat.le_refl _) _⟩

set_option maxRecDepth 100000 in
set_option maxHeartbeats 1000000 in
theorem bare_5 (x : Int) (s : List UInt8) (aF : Option Addr) (nF cF : Nat) (aL : Option Addr) (nL cL : Nat) (w : World) (hs : ¬ s = []) :
    Calls Try.prog 47 #[itv 3 s aF nF cF aL nL cL x] w fun e w' => e = .returned (.bool false) ∧ Below w.heap.size w w' := by
  unfold itv
  go_enter Try.func47, Try.ntmps47
  go_wp2
  go_ret
  exact ⟨rfl, (Below.refl _ _).alloc (Nat.le_refl _) _⟩

set_option maxRecDepth 100000 in
set_option maxHeartbeats 1000000 in
theorem bare_6 (x : Int) (s : List UInt8) (aF : Option Addr) (nF cF : Nat) (aL : Option Addr) (nL cL : Nat) (w : World) (hs : ¬ s = []) :
    Calls Try.prog 47 #[itv 4 s aF nF cF aL nL cL x] w fun e w' => e = .returned (.bool false) ∧ Below w.heap.size w w' := by
  unfold itv
  go_enter Try.func47, Try.ntmps47
  go_wp2
  go_ret
  exact ⟨rfl, (Below.refl _ _).alloc (Nat.le_refl _) _⟩

set_option maxRecDepth 100000 in
set_option maxHeartbeats 1000000 in
theorem bare_7 (k x : Int) (s : List UInt8) (aF : Option Addr) (nF cF : Nat) (aL : Option Addr) (nL cL : Nat) (w : World) (h1 : ¬ k = 1) (h2 : ¬ k = 2) (h3 : ¬ k = 3) (h4 : ¬ k = 4) :
    Calls Try.prog 47 #[itv k s aF nF cF aL nL cL x] w fun e w' => e = .returned (.bool false) ∧ Below w.heap.size w w' := by
  unfold itv
  go_enter Try.func47, Try.ntmps47
  go_wp2
  go_ret
  exact ⟨rfl, (Below.refl _ _).alloc (Nat.le_refl _) _⟩

set_option maxRecDepth 100000 in
set_option maxHeartbeats 1000000 in
theorem bare_8 (x : Int) (aF : Option Addr) (nF cF : Nat) (aL : Option Addr) (nL cL : Nat) (w : World) (hnL : nL ≠ 0) :
    Calls Try.prog 47 #[itv 2 [] aF nF cF aL nL cL x] w fun e w' => e = .returned (.bool false) ∧ Below w.heap.size w w' := by
  unfold itv
  have e_nL : ((nL : Int) == 0) = false := by rw [beq_eq_false_iff_ne]; omega
  have f_nL : (0 : Int) < (nL : Int) := by omega
  go_enter Try.func47, Try.ntmps47
  go_wp2
  go_ret
  exact ⟨rfl, (Below.refl _ _).alloc (Nat.le_refl _) _⟩

set_option maxRecDepth 100000 in
set_option maxHeartbeats 1000000 in
theorem bare_9 (x : Int) (aF : Option Addr) (cF : Nat) (aL : Option Addr) (cL : Nat) (w : World) :
    Calls Try.prog 47 #[itv 2 [] aF 0 cF aL 0 cL x] w fun e w' => e = .returned (.bool false) ∧ Below w.heap.size w w' := by
  unfold itv
  go_enter Try.func47, Try.ntmps47
  go_wp2
  go_ret
  exact ⟨rfl, (Below.refl _ _).alloc (Nat.le_refl _) _⟩

set_option maxRecDepth 100000 in
set_option maxHeartbeats 1000000 in
theorem bare_10 (x : Int) (aF : Option Addr) (nF cF : Nat) (aL : Option Addr) (cL : Nat) (w : World) (hnF : nF ≠ 0) :
    Calls Try.prog 47 #[itv 2 [] aF nF cF aL 0 cL x] w fun e w' => e = .returned (.bool true) ∧ Below w.heap.size w w' := by
  unfold itv
  have e_nF : ((nF : Int) == 0) = false := by rw [beq_eq_false_iff_ne]; omega
  have f_nF : (0 : Int) < (nF : Int) := by omega
  go_enter Try.func47, Try.ntmps47
  go_wp2
  go_ret
  exact ⟨congrArg (fun b => Ending.returned (Value.bool b)) (decide_eq_true (by omega)), (Below.refl _ _).alloc (Nat.le_refl _) _⟩

set_option maxRecDepth 100000 in
set_option maxHeartbeats 1000000 in
theorem bare_11 (x : Int) (aF : Option Addr) (nF cF : Nat) (aL : Option Addr) (nL cL : Nat) (w : World) (hnF : nF ≠ 0) :
    Calls Try.prog 47 #[itv 3 [] aF nF cF aL nL cL x] w fun e w' => e = .returned (.bool false) ∧ Below w.heap.size w w' := by
  unfold itv
  have e_nF : ((nF : Int) == 0) = false := by rw [beq_eq_false_iff_ne]; omega
  have f_nF : (0 : Int) < (nF : Int) := by omega
  go_enter Try.func47, Try.ntmps47
  go_wp2
  go_ret
  exact ⟨rfl, (Below.refl _ _).alloc (Nat.le_refl _) _⟩

set_option maxRecDepth 100000 in
set_option maxHeartbeats 1000000 in
theorem bare_12 (x : Int) (aF : Option Addr) (cF : Nat) (aL : Option Addr) (cL : Nat) (w : World) :
    Calls Try.prog 47 #[itv 3 [] aF 0 cF aL 0 cL x] w fun e w' => e = .returned (.bool false) ∧ Below w.heap.size w w' := by
  unfold itv
  go_enter Try.func47, Try.ntmps47
  go_wp2
  go_ret
  exact ⟨rfl, (Below.refl _ _).alloc (Nat.le_refl _) _⟩

set_option maxRecDepth 100000 in
set_option maxHeartbeats 1000000 in
theorem bare_13 (x : Int) (aF : Option Addr) (cF : Nat) (aL : Option Addr) (nL cL : Nat) (w : World) (hnL : nL ≠ 0) :
    Calls Try.prog 47 #[itv 3 [] aF 0 cF aL nL cL x] w fun e w' => e = .returned (.bool true) ∧ Below w.heap.size w w' := by
  unfold itv
  have e_nL : ((nL : Int) == 0) = false := by rw [beq_eq_false_iff_ne]; omega
  have f_nL : (0 : Int) < (nL : Int) := by omega
  go_enter Try.func47, Try.ntmps47
  go_wp2
  go_ret
  exact ⟨congrArg (fun b => Ending.returned (Value.bool b)) (decide_eq_true (by omega)), (Below.refl _ _).alloc (Nat.le_refl _) _⟩

set_option maxRecDepth 100000 in
set_option maxHeartbeats 1000000 in
theorem bare_14 (x : Int) (aF : Option Addr) (nF cF : Nat) (aL : Option Addr) (nL cL : Nat) (w : World) (hnF : nF ≠ 0) :
    Calls Try.prog 47 #[itv 4 [] aF nF cF aL nL cL x] w fun e w' => e = .returned (.bool false) ∧ Below w.heap.size w w' := by
  unfold itv
  have e_nF : ((nF : Int) == 0) = false := by rw [beq_eq_false_iff_ne]; omega
  have f_nF : (0 : Int) < (nF : Int) := by omega
  go_enter Try.func47, Try.ntmps47
  go_wp2
  go_ret
  exact ⟨rfl, (Below.refl _ _).alloc (Nat.le_refl _) _⟩

set_option maxRecDepth 100000 in
set_option maxHeartbeats 1000000 in
theorem bare_15 (x : Int) (aF : Option Addr) (cF : Nat) (aL : Option Addr) (cL : Nat) (w : World) :
    Calls Try.prog 47 #[itv 4 [] aF 0 cF aL 0 cL x] w fun e w' => e = .returned (.bool false) ∧ Below w.heap.size w w' := by
  unfold itv
  go_enter Try.func47, Try.ntmps47
  go_wp2
  go_ret
  exact ⟨rfl, (Below.refl _ _).alloc (Nat.le_refl _) _⟩

set_option maxRecDepth 100000 in
set_option maxHeartbeats 1000000 in
theorem bare_16 (x : Int) (aF : Option Addr) (cF : Nat) (aL : Option Addr) (nL cL : Nat) (w : World) (hnL : nL ≠ 0) :
    Calls Try.prog 47 #[itv 4 [] aF 0 cF aL nL cL x] w fun e w' => e = .returned (.bool true) ∧ Below w.heap.size w w' := by
  unfold itv
  have e_nL : ((nL : Int) == 0) = false := by rw [beq_eq_false_iff_ne]; omega
  have f_nL : (0 : Int) < (nL : Int) := by omega
  go_enter Try.func47, Try.ntmps47
  go_wp2
  go_ret
  exact ⟨congrArg (fun b => Ending.returned (Value.bool b)) (decide_eq_true (by omega)), (Below.refl _ _).alloc (Nat.le_refl _) _⟩

theorem bare_any (k x : Int) (s : List UInt8) (aF : Option Addr) (cF : Nat) (fs : List (List UInt8 × List UInt8)) (aL : Option Addr) (cL : Nat) (ws : List (List UInt8)) (w : World) :
    Calls Try.prog 47 #[itv k s aF fs.length cF aL ws.length cL x] w fun e w' => e = .returned (.bool (It.bareB ⟨k, s, fs, ws, x⟩)) ∧ Below w.heap.size w w' := by
  have hp : ∀ {n : Nat}, ¬ n = 0 → 0 < n := fun h => by omega
  by_cases h1 : k = 1
  · subst h1
    by_cases hf : fs.length = 0
    · by_cases hl : ws.length = 0
      · rw [show It.bareB ⟨1, s, fs, ws, x⟩ = true by simp [It.bareB, hf, hl], hf, hl]
        exact bare_1 x s aF cF aL cL w
      · rw [show It.bareB ⟨1, s, fs, ws, x⟩ = false by simp [It.bareB, hf, hl], hf]
        exact bare_2 x s aF cF aL _ cL w hl
    · rw [show It.bareB ⟨1, s, fs, ws, x⟩ = false by simp [It.bareB, hf]]
      exact bare_3 x s aF _ cF aL _ cL w hf
  by_cases h2 : k = 2
  · subst h2
    by_cases hs : s = []
    · subst hs
      by_cases hl : ws.length = 0
      · rw [hl]
        by_cases hf : fs.length = 0
        · rw [show It.bareB ⟨2, [], fs, ws, x⟩ = false by simp [It.bareB, hf], hf]
          exact bare_9 x aF cF aL cL w
        · rw [show It.bareB ⟨2, [], fs, ws, x⟩ = true by simp [It.bareB, hp hf, hl]]
          exact bare_10 x aF _ cF aL cL w hf
      · rw [show It.bareB ⟨2, [], fs, ws, x⟩ = false by simp [It.bareB, hl]]
        exact bare_8 x aF _ cF aL _ cL w hl
    · rw [show It.bareB ⟨2, s, fs, ws, x⟩ = false by simp [It.bareB, hs]]
      exact bare_4 x s aF _ cF aL _ cL w hs
  by_cases h3 : k = 3
  · subst h3
    by_cases hs : s = []
    · subst hs
      by_cases hf : fs.length = 0
      · rw [hf]
        by_cases hl : ws.length = 0
        · rw [show It.bareB ⟨3, [], fs, ws, x⟩ = false by simp [It.bareB, hl], hl]
          exact bare_12 x aF cF aL cL w
        · rw [show It.bareB ⟨3, [], fs, ws, x⟩ = true by simp [It.bareB, hp hl, hf]]
          exact bare_13 x aF cF aL _ cL w hl
      · rw [show It.bareB ⟨3, [], fs, ws, x⟩ = false by simp [It.bareB, hf]]
        exact bare_11 x aF _ cF aL _ cL w hf
    · rw [show It.bareB ⟨3, s, fs, ws, x⟩ = false by simp [It.bareB, hs]]
      exact bare_5 x s aF _ cF aL _ cL w hs
  by_cases h4 : k = 4
  · subst h4
    by_cases hs : s = []
    · subst hs
      by_cases hf : fs.length = 0
      · rw [hf]
        by_cases hl : ws.length = 0
        · rw [show It.bareB ⟨4, [], fs, ws, x⟩ = false by simp [It.bareB, hl], hl]
          exact bare_15 x aF cF aL cL w
        · rw [show It.bareB ⟨4, [], fs, ws, x⟩ = true by simp [It.bareB, hp hl, hf]]
          exact bare_16 x aF cF aL _ cL w hl
      · rw [show It.bareB ⟨4, [], fs, ws, x⟩ = false by simp [It.bareB, hf]]
        exact bare_14 x aF _ cF aL _ cL w hf
    · rw [show It.bareB ⟨4, s, fs, ws, x⟩ = false by simp [It.bareB, hs]]
      exact bare_6 x s aF _ cF aL _ cL w hs
  · rw [show It.bareB ⟨k, s, fs, ws, x⟩ = false by simp [It.bareB, h1, h2, h3, h4]]
    exact bare_7 k x s aF _ cF aL _ cL w h1 h2 h3 h4

set_option maxRecDepth 100000 in
set_option maxHeartbeats 1000000 in
theorem refMay_1 (k x : Int) (s : List UInt8) (aF : Option Addr) (cF : Nat) (fs : List (List UInt8 × List UInt8)) (aL : Option Addr) (cL : Nat) (ws : List (List UInt8)) (w : World) (hbr : It.bareB ⟨k, s, fs, ws, x⟩ = false) :
    Calls Try.prog 28 #[itv k s aF fs.length cF aL ws.length cL x] w fun e w' => e = .returned (.bool false) ∧ Below w.heap.size w w' := by
  unfold itv
  have hb := fun W => bare_any k x s aF cF fs aL cL ws W
  rw [hbr] at hb
  unfold itv at hb
  have HBr := Lib.hid hb
  clear hb hbr
  generalize fs.length = nF at *
  generalize ws.length = nL at *
  go_enter Try.func28, Try.ntmps28
  go_wp2_with fail
  refine (HBr.out _).mono ?_
  rintro e w1 ⟨rfl, hb⟩
  have HB := Lib.hid hb
  obtain ⟨hcl, -⟩ := bcell hb
  clear hb
  simp only [World.size_alloc] at hcl
  go_wp2
  go_ret
  exact ⟨rfl, ((Below.refl _ w).alloc (Nat.le_refl _) _).trans (HB.out.mono (by simp))⟩

set_option maxRecDepth 100000 in
set_option maxHeartbeats 1000000 in
theorem refMay_2 (k x : Int) (s : List UInt8) (aF : Option Addr) (cF : Nat) (fs : List (List UInt8 × List UInt8)) (aL : Option Addr) (cL : Nat) (ws : List (List UInt8)) (w : World) (hbr : It.bareB ⟨k, s, fs, ws, x⟩ = true) (hs : 300 < s.length) :
    Calls Try.prog 28 #[itv k s aF fs.length cF aL ws.length cL x] w fun e w' => e = .returned (.bool false) ∧ Below w.heap.size w w' := by
  unfold itv
  have hb := fun W => bare_any k x s aF cF fs aL cL ws W
  rw [hbr] at hb
  unfold itv at hb
  have HBr := Lib.hid hb
  clear hb hbr
  generalize fs.length = nF at *
  generalize ws.length = nL at *
  have e1 : (300 : Int) < (s.length : Int) := by omega
  clear hs
  go_enter Try.func28, Try.ntmps28
  go_wp2_with fail
  refine (HBr.out _).mono ?_
  rintro e w1 ⟨rfl, hb⟩
  have HB := Lib.hid hb
  obtain ⟨hcl, -⟩ := bcell hb
  clear hb
  simp only [World.size_alloc] at hcl
  go_wp2
  go_ret
  exact ⟨rfl, ((Below.refl _ w).alloc (Nat.le_refl _) _).trans (HB.out.mono (by simp))⟩

set_option maxRecDepth 100000 in
set_option maxHeartbeats 1000000 in
theorem refMay_3 (k x : Int) (s : List UInt8) (aF : Option Addr) (cF : Nat) (fs : List (List UInt8 × List UInt8)) (aL : Option Addr) (cL : Nat) (ws : List (List UInt8)) (w : World) (hbr : It.bareB ⟨k, s, fs, ws, x⟩ = true) (hs : s.length ≤ 300) (hf : 40 < fs.length) :
    Calls Try.prog 28 #[itv k s aF fs.length cF aL ws.length cL x] w fun e w' => e = .returned (.bool false) ∧ Below w.heap.size w w' := by
  unfold itv
  have hb := fun W => bare_any k x s aF cF fs aL cL ws W
  rw [hbr] at hb
  unfold itv at hb
  have HBr := Lib.hid hb
  clear hb hbr
  generalize fs.length = nF at *
  generalize ws.length = nL at *
  have e1 : (s.length : Int) ≤ 300 := by omega
  clear hs
  have e2 : (40 : Int) < (nF : Int) := by omega
  clear hf
  go_enter Try.func28, Try.ntmps28
  go_wp2_with fail
  refine (HBr.out _).mono ?_
  rintro e w1 ⟨rfl, hb⟩
  have HB := Lib.hid hb
  obtain ⟨hcl, -⟩ := bcell hb
  clear hb
  simp only [World.size_alloc] at hcl
  go_wp2
  go_ret
  exact ⟨rfl, ((Below.refl _ w).alloc (Nat.le_refl _) _).trans (HB.out.mono (by simp))⟩

set_option maxRecDepth 100000 in
set_option maxHeartbeats 1000000 in
theorem refMay_4 (k x : Int) (s : List UInt8) (aF : Option Addr) (cF : Nat) (fs : List (List UInt8 × List UInt8)) (aL : Option Addr) (cL : Nat) (ws : List (List UInt8)) (w : World) (hbr : It.bareB ⟨k, s, fs, ws, x⟩ = true) (hs : s.length ≤ 300) (hf : fs.length ≤ 40) (hl : 40 < ws.length) :
    Calls Try.prog 28 #[itv k s aF fs.length cF aL ws.length cL x] w fun e w' => e = .returned (.bool false) ∧ Below w.heap.size w w' := by
  unfold itv
  have hb := fun W => bare_any k x s aF cF fs aL cL ws W
  rw [hbr] at hb
  unfold itv at hb
  have HBr := Lib.hid hb
  clear hb hbr
  generalize fs.length = nF at *
  generalize ws.length = nL at *
  have e1 : (s.length : Int) ≤ 300 := by omega
  clear hs
  have e2 : (nF : Int) ≤ 40 := by omega
  clear hf
  have e3 : (40 : Int) < (nL : Int) := by omega
  clear hl
  go_enter Try.func28, Try.ntmps28
  go_wp2_with fail
  refine (HBr.out _).mono ?_
  rintro e w1 ⟨rfl, hb⟩
  have HB := Lib.hid hb
  obtain ⟨hcl, -⟩ := bcell hb
  clear hb
  simp only [World.size_alloc] at hcl
  go_wp2
  go_ret
  exact ⟨rfl, ((Below.refl _ w).alloc (Nat.le_refl _) _).trans (HB.out.mono (by simp))⟩

set_option maxRecDepth 100000 in
set_option maxHeartbeats 1000000 in
theorem refMay_5 (k x : Int) (s : List UInt8) (aF : Option Addr) (cF : Nat) (fs : List (List UInt8 × List UInt8)) (aL : Option Addr) (cL : Nat) (ws : List (List UInt8)) (w : World) (hbr : It.bareB ⟨k, s, fs, ws, x⟩ = true) (hs : s.length ≤ 300) (hf : fs.length ≤ 40) (hl : ws.length ≤ 40) (hx : x < 0) :
    Calls Try.prog 28 #[itv k s aF fs.length cF aL ws.length cL x] w fun e w' => e = .returned (.bool false) ∧ Below w.heap.size w w' := by
  unfold itv
  have hb := fun W => bare_any k x s aF cF fs aL cL ws W
  rw [hbr] at hb
  unfold itv at hb
  have HBr := Lib.hid hb
  clear hb hbr
  generalize fs.length = nF at *
  generalize ws.length = nL at *
  have e1 : (s.length : Int) ≤ 300 := by omega
  clear hs
  have e2 : (nF : Int) ≤ 40 := by omega
  clear hf
  have e3 : (nL : Int) ≤ 40 := by omega
  clear hl
  go_enter Try.func28, Try.ntmps28
  go_wp2_with fail
  refine (HBr.out _).mono ?_
  rintro e w1 ⟨rfl, hb⟩
  have HB := Lib.hid hb
  obtain ⟨hcl, -⟩ := bcell hb
  clear hb
  simp only [World.size_alloc] at hcl
  go_wp2
  go_ret
  exact ⟨rfl, ((Below.refl _ w).alloc (Nat.le_refl _) _).trans (HB.out.mono (by simp))⟩

set_option maxRecDepth 100000 in
set_option maxHeartbeats 1000000 in
theorem refMay_6 (k x : Int) (s : List UInt8) (aF : Option Addr) (cF : Nat) (fs : List (List UInt8 × List UInt8)) (aL : Option Addr) (cL : Nat) (ws : List (List UInt8)) (w : World) (hbr : It.bareB ⟨k, s, fs, ws, x⟩ = true) (hs : s.length ≤ 300) (hf : fs.length ≤ 40) (hl : ws.length ≤ 40) (hx0 : 0 ≤ x) (hx : 9007199254740992 < x) :
    Calls Try.prog 28 #[itv k s aF fs.length cF aL ws.length cL x] w fun e w' => e = .returned (.bool false) ∧ Below w.heap.size w w' := by
  unfold itv
  have hb := fun W => bare_any k x s aF cF fs aL cL ws W
  rw [hbr] at hb
  unfold itv at hb
  have HBr := Lib.hid hb
  clear hb hbr
  generalize fs.length = nF at *
  generalize ws.length = nL at *
  have e1 : (s.length : Int) ≤ 300 := by omega
  clear hs
  have e2 : (nF : Int) ≤ 40 := by omega
  clear hf
  have e3 : (nL : Int) ≤ 40 := by omega
  clear hl
  go_enter Try.func28, Try.ntmps28
  go_wp2_with fail
  refine (HBr.out _).mono ?_
  rintro e w1 ⟨rfl, hb⟩
  have HB := Lib.hid hb
  obtain ⟨hcl, -⟩ := bcell hb
  clear hb
  simp only [World.size_alloc] at hcl
  go_wp2
  go_ret
  exact ⟨rfl, ((Below.refl _ w).alloc (Nat.le_refl _) _).trans (HB.out.mono (by simp))⟩

end Go.Proofs.Ytihleddhjmejoaa
namespace Go.Proofs.Ytihleddhjmejoaa
open Go.RowKit Go.Shelf

theorem List.getD_pred {α : Type} {l : List α} {d : α} {m : Nat} : l.getD (m + 1 - 1) d = l.getD m d := rfl

set_option maxRecDepth 100000 in
set_option maxHeartbeats 8000000 in
theorem refMay_loops (k x : Int) (s : List UInt8) (aF : Option Addr) (cF : Nat) (fs : List (List UInt8 × List UInt8)) (aL : Option Addr) (cL : Nat) (ws : List (List UInt8)) (w : World) (hF : Fds w aF cF fs) (hL : Wds w aL cL ws)
    (hbr : It.bareB ⟨k, s, fs, ws, x⟩ = true) (hs : s.length ≤ 300) (hf : fs.length ≤ 40) (hl : ws.length ≤ 40) (hx0 : 0 ≤ x) (hx : x ≤ 9007199254740992) :
    Calls Try.prog 28 #[itv k s aF fs.length cF aL ws.length cL x] w fun e w' => e = .returned (.bool ((List.range fs.length).all (It.fieldB ⟨k, s, fs, ws, x⟩) && (List.range ws.length).all (It.elemB ⟨k, s, fs, ws, x⟩))) ∧ Below w.heap.size w w' := by
  have hb := fun W => bare_any k x s aF cF fs aL cL ws W
  rw [hbr] at hb
  unfold itv at hb ⊢
  have HBr := Lib.hid hb
  have HF := Lib.hid hF
  have HL := Lib.hid hL
  have e1 : (s.length : Int) ≤ 300 := by omega
  have e2 : (fs.length : Int) ≤ 40 := by omega
  have e3 : (ws.length : Int) ≤ 40 := by omega
  have HG := Lib.hid (show ∀ i, It.fieldB ⟨k, s, fs, ws, x⟩ i = (decide ((fs.getD i ([], [])).1.length ≤ 300) && decide ((fs.getD i ([], [])).2.length ≤ 300) && (i == 0 || decide ((fs.getD (i - 1) ([], [])).1 < (fs.getD i ([], [])).1))) from fun _ => rfl)
  have HE := Lib.hid (show ∀ i, It.elemB ⟨k, s, fs, ws, x⟩ i = (decide ((ws.getD i []).length ≤ 300) && (!decide (k = 4) || i == 0 || decide (ws.getD (i - 1) [] < ws.getD i []))) from fun _ => rfl)
  clear hb hbr hF hL hs hf hl
  generalize It.fieldB ⟨k, s, fs, ws, x⟩ = fB at *
  generalize It.elemB ⟨k, s, fs, ws, x⟩ = eB at *
  go_enter Try.func28, Try.ntmps28
  go_wp2_with fail
  refine (HBr.out _).mono ?_
  rintro e w1 ⟨rfl, hb⟩
  have hb1 := ((Below.refl _ w).alloc (Nat.le_refl _) (itc k s aF fs.length cF aL ws.length cL x)).trans (hb.mono (by simp))
  have hbx := (ItBox.new w k s aF fs.length cF aL ws.length cL x).later hb
  obtain ⟨c0, c1, c2, c3, c4⟩ := hbx.at
  have hblt := hbx.lt
  have HB1 := Lib.hid hb1
  clear hb hb1 HBr hbx
  go_wp2
  go_loopw [3] (fun i wr => ∃ n : Nat, n ≤ fs.length ∧ i = .int .i64 n ∧ Hid (∀ j, j < n → fB j = true) ∧ Hid (Below w1.heap.size w1 wr)) (fun i _ => fs.length - (intOf i).toNat)
  case atStart => exact ⟨0, Nat.zero_le _, rfl, Lib.hid fun j h => by omega, Lib.hid (Below.refl _ _)⟩
  case round =>
    obtain ⟨n, hn, rfl, HJ, HK⟩ := hrel
    have d0 := (HK.out.cell (p := ⟨w.heap.size, 0, none⟩) hblt).trans c0
    have d2 := (HK.out.cell (p := ⟨w.heap.size, 2, none⟩) hblt).trans c2
    have d3 := (HK.out.cell (p := ⟨w.heap.size, 3, none⟩) hblt).trans c3
    clear c0 c1 c2 c3 c4
    by_cases hlt : n < fs.length
    · have hF1 := (HF.out.later HB1.out).later HK.out
      obtain ⟨b, off, rfl, hb, hc⟩ := hF1.get (by omega)
      obtain ⟨q1, q2⟩ := hc n hlt
      have k0 : (0 : Int) ≤ (n : Int) := by omega
      have k1 : (n : Int) < (fs.length : Int) := by omega
      have HX := Lib.hid (HG.out n)
      have HZ : Hid (0 < n → wr.cell? ⟨b, off + (n - 1) * 2, none⟩ = some (.string ⟨(fs.getD (n - 1) ([], [])).1.toArray⟩)) := Lib.hid fun h => (hc (n - 1) (by omega)).1
      clear hc hF1
      generalize (fs.getD n ([], [])).1 = u at *
      generalize (fs.getD n ([], [])).2 = v at *
      generalize (fs.getD (n - 1) ([], [])).1 = z at *
      by_cases hbig1 : 300 < u.length
      · have HQ : Hid (fB n = false) := Lib.hid (by rw [HX.out, decide_eq_false (by omega)]; rfl)
        have b1 : (300 : Int) < (u.length : Int) := by omega
        clear HX HZ hbig1
        go_wp2
        go_quiet (fail)
        go_wp2
        go_ret
        exact ⟨by rw [all_false hlt HQ.out]; rfl, HB1.out.trans ((below_drewN HK.out _).mono HB1.out.size)⟩
      have b1 : decide ((300 : Int) < (u.length : Int)) = false := by rw [decide_eq_false_iff_not]; omega
      by_cases hbig2 : 300 < v.length
      · have HQ : Hid (fB n = false) := Lib.hid (by rw [HX.out, decide_eq_false (p := v.length ≤ 300) (by omega)]; simp)
        have b2 : (300 : Int) < (v.length : Int) := by omega
        clear HX HZ hbig1 hbig2
        go_wp2
        go_quiet (fail)
        go_wp2
        go_ret
        exact ⟨by rw [all_false hlt HQ.out]; rfl, HB1.out.trans ((below_drewN HK.out _).mono HB1.out.size)⟩
      have b2 : decide ((300 : Int) < (v.length : Int)) = false := by rw [decide_eq_false_iff_not]; omega
      have HX' : Hid (fB n = (n == 0 || decide (z < u))) := Lib.hid (by rw [HX.out, decide_eq_true (by omega), decide_eq_true (by omega)]; rfl)
      clear HX hbig1 hbig2
      cases n with
      | zero =>
        have HQ : Hid (fB 0 = true) := Lib.hid (by rw [HX'.out]; rfl)
        simp only [Nat.zero_mul, Nat.add_zero] at q1 q2
        have k2 : (0 : Int) < (fs.length : Int) := by omega
        have hc0 : fs.length ≠ 0 := by omega
        clear HX' HZ k0 k1
        go_wp2
        go_quiet (fail)
        go_wp2
        go_roundw
        case rel => exact ⟨1, by omega, by go_num, Lib.hid fun j hj => by obtain rfl : j = 0 := by omega
                                                                          exact HQ.out, Lib.hid (below_drewN HK.out _)⟩
        case measure => simp [intOf]; omega
      | succ m =>
        have q3 := HZ.out (by omega)
        rw [Nat.add_sub_cancel] at q3
        have HX2 : Hid (fB (m + 1) = decide (z < u)) := Lib.hid (by rw [HX'.out]; rfl)
        clear HX' HZ
        have w1' : IntKind.i64.wrap (m : Int) = (m : Int) := IntWalk.i64_in _ (by omega)
        have g1 : (0 : Int) < (m : Int) + 1 := by omega
        have g2 : (m : Int) < (fs.length : Int) := by omega
        have g3 : (m : Int) + 1 < (fs.length : Int) := by omega
        by_cases hzu : z < u
        · have HQ : Hid (fB (m + 1) = true) := Lib.hid (by rw [HX2.out, decide_eq_true hzu])
          have hbl : Op.bytesLess z u = true := by rw [bytesLess_eq, decide_eq_true hzu]
          clear HX2 hzu
          go_wp2
          go_quiet (fail)
          go_wp2
          go_roundw
          case rel => exact ⟨m + 1 + 1, by omega, by go_num, Lib.hid fun j hj => by
                        rcases Nat.lt_or_ge j (m + 1) with h | h
                        · exact HJ.out j h
                        · obtain rfl : j = m + 1 := by omega
                          exact HQ.out, Lib.hid (below_drewN HK.out _)⟩
          case measure => simp [intOf]; omega
        · have HQ : Hid (fB (m + 1) = false) := Lib.hid (by rw [HX2.out, decide_eq_false hzu])
          have hbl : Op.bytesLess z u = false := by rw [bytesLess_eq, decide_eq_false hzu]
          clear HX2 hzu
          go_wp2
          go_quiet (fail)
          go_wp2
          go_ret
          exact ⟨by rw [all_false hlt HQ.out]; rfl, HB1.out.trans ((below_drewN HK.out _).mono HB1.out.size)⟩
    · obtain rfl : n = fs.length := by omega
      have HA : Hid ((List.range fs.length).all fB = true) := Lib.hid (List.all_eq_true.2 fun j hj => HJ.out j (List.mem_range.1 hj))
      have HK0 := HK
      have c0 := d0
      have c3 := d3
      clear HJ d0 d3 hn HF
      obtain ⟨wB, rfl⟩ : ∃ wB : World, wB = wr := ⟨_, rfl⟩
      have hblB : w.heap.size < wB.heap.size := Nat.lt_of_lt_of_le hblt HK0.out.size
      go_wp2
      go_loopw [4] (fun i wr => ∃ n : Nat, n ≤ ws.length ∧ i = .int .i64 n ∧ Hid (∀ j, j < n → eB j = true) ∧ Hid (Below wB.heap.size wB wr)) (fun i _ => ws.length - (intOf i).toNat)
      case atStart => exact ⟨0, Nat.zero_le _, rfl, Lib.hid fun j h => by omega, Lib.hid (Below.refl _ _)⟩
      case round =>
        obtain ⟨n, hn, rfl, HJ, HK⟩ := hrel
        have d0 := (HK.out.cell (p := ⟨w.heap.size, 0, none⟩) hblB).trans c0
        have d3 := (HK.out.cell (p := ⟨w.heap.size, 3, none⟩) hblB).trans c3
        have HBt : Hid (Below w.heap.size w wB) := Lib.hid (HB1.out.trans (HK0.out.mono HB1.out.size))
        clear c0 c3 HB1 HK0
        by_cases hlt : n < ws.length
        · have hF1 := (HL.out.later HBt.out).later HK.out
          obtain ⟨b, off, rfl, hb, hc⟩ := hF1.get (by omega)
          have q1 := hc n hlt
          have k0 : (0 : Int) ≤ (n : Int) := by omega
          have k1 : (n : Int) < (ws.length : Int) := by omega
          have HX := Lib.hid (HE.out n)
          have HZ : Hid (0 < n → wr.cell? ⟨b, off + (n - 1), none⟩ = some (.string ⟨(ws.getD (n - 1) []).toArray⟩)) := Lib.hid fun h => hc (n - 1) (by omega)
          clear hc hF1
          generalize ws.getD n [] = u at *
          generalize ws.getD (n - 1) [] = z at *
          by_cases hbig1 : 300 < u.length
          · have HQ : Hid (eB n = false) := Lib.hid (by rw [HX.out, decide_eq_false (p := u.length ≤ 300) (by omega)]; rfl)
            have b1 : (300 : Int) < (u.length : Int) := by omega
            clear HX HZ hbig1
            go_wp2
            go_quiet (fail)
            go_wp2
            go_ret
            exact ⟨by rw [HA.out, all_false hlt HQ.out]; rfl, HBt.out.trans ((below_drewN HK.out _).mono HBt.out.size)⟩
          have b1 : decide ((300 : Int) < (u.length : Int)) = false := by rw [decide_eq_false_iff_not]; omega
          by_cases hk4 : k = 4
          · subst hk4
            have HX' : Hid (eB n = (n == 0 || decide (z < u))) := Lib.hid (by rw [HX.out, decide_eq_true (p := u.length ≤ 300) (by omega)]; simp)
            clear HX hbig1
            cases n with
            | zero =>
              have HQ : Hid (eB 0 = true) := Lib.hid (by rw [HX'.out]; rfl)
              simp only [Nat.add_zero] at q1
              have k2 : (0 : Int) < (ws.length : Int) := by omega
              have hc0 : ws.length ≠ 0 := by omega
              clear HX' HZ k0 k1
              go_wp2
              go_quiet (fail)
              go_wp2
              go_roundw
              case rel => exact ⟨1, by omega, by go_num, Lib.hid fun j hj => by obtain rfl : j = 0 := by omega
                                                                                exact HQ.out, Lib.hid (below_drewN HK.out _)⟩
              case measure => simp [intOf]; omega
            | succ m =>
              have q3 := HZ.out (by omega)
              rw [Nat.add_sub_cancel] at q3
              have HX2 : Hid (eB (m + 1) = decide (z < u)) := Lib.hid (by rw [HX'.out]; rfl)
              have w1' : IntKind.i64.wrap (m : Int) = (m : Int) := IntWalk.i64_in _ (by omega)
              have g1 : (0 : Int) < (m : Int) + 1 := by omega
              have g2 : (m : Int) < (ws.length : Int) := by omega
              have g3 : (m : Int) + 1 < (ws.length : Int) := by omega
              clear HX' HZ
              by_cases hzu : z < u
              · have HQ : Hid (eB (m + 1) = true) := Lib.hid (by rw [HX2.out, decide_eq_true hzu])
                have hbl : Op.bytesLess z u = true := by rw [bytesLess_eq, decide_eq_true hzu]
                clear HX2 hzu
                go_wp2
                go_quiet (fail)
                go_wp2
                go_roundw
                case rel => exact ⟨m + 1 + 1, by omega, by go_num, Lib.hid fun j hj => by
                              rcases Nat.lt_or_ge j (m + 1) with h | h
                              · exact HJ.out j h
                              · obtain rfl : j = m + 1 := by omega
                                exact HQ.out, Lib.hid (below_drewN HK.out _)⟩
                case measure => simp [intOf]; omega
              · have HQ : Hid (eB (m + 1) = false) := Lib.hid (by rw [HX2.out, decide_eq_false hzu])
                have hbl : Op.bytesLess z u = false := by rw [bytesLess_eq, decide_eq_false hzu]
                clear HX2 hzu
                go_wp2
                go_quiet (fail)
                go_wp2
                go_ret
                exact ⟨by rw [HA.out, all_false hlt HQ.out]; rfl, HBt.out.trans ((below_drewN HK.out _).mono HBt.out.size)⟩
          · have hke : (k == 4) = false := beq_eq_false_iff_ne.2 hk4
            have HQ : Hid (eB n = true) := Lib.hid (by rw [HX.out, decide_eq_true (p := u.length ≤ 300) (by omega), decide_eq_false hk4]; rfl)
            clear HX HZ hbig1
            go_wp2
            go_quiet (fail)
            go_wp2
            go_roundw
            case rel => exact ⟨n + 1, by omega, by go_num, Lib.hid fun j hj => by
                          rcases Nat.lt_or_ge j n with h | h
                          · exact HJ.out j h
                          · obtain rfl : j = n := by omega
                            exact HQ.out, Lib.hid (below_drewN HK.out _)⟩
            case measure => simp [intOf]; omega
        · obtain rfl : n = ws.length := by omega
          have HA2 : Hid ((List.range ws.length).all eB = true) := Lib.hid (List.all_eq_true.2 fun j hj => HJ.out j (List.mem_range.1 hj))
          go_wp2
          go_ret
          exact ⟨by rw [HA.out, HA2.out]; rfl, HBt.out.trans (HK.out.mono HBt.out.size)⟩

theorem refMay_any (k x : Int) (s : List UInt8) (aF : Option Addr) (cF : Nat) (fs : List (List UInt8 × List UInt8)) (aL : Option Addr) (cL : Nat) (ws : List (List UInt8)) (w : World) (hF : Fds w aF cF fs) (hL : Wds w aL cL ws) :
    Calls Try.prog 28 #[itv k s aF fs.length cF aL ws.length cL x] w fun e w' => e = .returned (.bool (It.mayB ⟨k, s, fs, ws, x⟩)) ∧ Below w.heap.size w w' := by
  rw [← It.ref_may]
  unfold It.refMayB It.headB
  cases hb : It.bareB ⟨k, s, fs, ws, x⟩ with
  | false =>
    simp only [Bool.false_and]
    exact refMay_1 k x s aF cF fs aL cL ws w hb
  | true =>
    by_cases hs : s.length ≤ 300
    · by_cases hf : fs.length ≤ 40
      · by_cases hl : ws.length ≤ 40
        · by_cases hx0 : 0 ≤ x
          · by_cases hx : x ≤ 9007199254740992
            · simp only [hs, hf, hl, hx0, hx, decide_true, Bool.true_and]
              exact refMay_loops k x s aF cF fs aL cL ws w hF hL hb hs hf hl hx0 hx
            · simp only [hx, decide_false, Bool.and_false, Bool.false_and]
              exact refMay_6 k x s aF cF fs aL cL ws w hb hs hf hl hx0 (by omega)
          · simp only [hx0, decide_false, Bool.and_false, Bool.false_and]
            exact refMay_5 k x s aF cF fs aL cL ws w hb hs hf hl (by omega)
        · simp only [hl, decide_false, Bool.and_false, Bool.false_and]
          exact refMay_4 k x s aF cF fs aL cL ws w hb hs hf (by omega)
      · simp only [hf, decide_false, Bool.and_false, Bool.false_and]
        exact refMay_3 k x s aF cF fs aL cL ws w hb hs (by omega)
    · simp only [hs, decide_false, Bool.and_false, Bool.false_and]
      exact refMay_2 k x s aF cF fs aL cL ws w hb (by omega)
end Go.Proofs.Ytihleddhjmejoaa
