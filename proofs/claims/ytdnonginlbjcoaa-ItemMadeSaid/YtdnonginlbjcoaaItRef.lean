/- The contracts of the reference's bare and MayItem. -/
import Derived.Test.YtdnonginlbjcoaaItTexts
import Derived.Sort.Walk0
namespace Go.Proofs.Ytdnonginlbjcoaa
open Go.RowKit Go.Shelf

theorem all_false {n m : Nat} {p : Nat → Bool} (h : m < n) (hp : p m = false) : (List.range n).all p = false := by
  rw [List.all_eq_false]
  exact ⟨m, List.mem_range.2 h, by rw [hp]; simp⟩

set_option maxRecDepth 100000 in
set_option maxHeartbeats 1000000 in
theorem bare_1 (x : Int) (s : List UInt8) (aF : Option Addr) (cF : Nat) (aL : Option Addr) (cL : Nat) (w : World) :
    Calls Try.prog 23 #[itv 1 s aF 0 cF aL 0 cL x] w fun e w' => e = .returned (.bool true) ∧ Below w.heap.size w w' := by
  unfold itv
  go_enter Try.func23, Try.ntmps23
  go_wp2
  go_ret
  exact ⟨rfl, (Below.refl _ _).alloc (Nat.le_refl _) _⟩

set_option maxRecDepth 100000 in
set_option maxHeartbeats 1000000 in
theorem bare_2 (x : Int) (s : List UInt8) (aF : Option Addr) (cF : Nat) (aL : Option Addr) (nL cL : Nat) (w : World) (hnL : nL ≠ 0) :
    Calls Try.prog 23 #[itv 1 s aF 0 cF aL nL cL x] w fun e w' => e = .returned (.bool false) ∧ Below w.heap.size w w' := by
  unfold itv
  have e_nL : ((nL : Int) == 0) = false := by rw [beq_eq_false_iff_ne]; omega
  have f_nL : (0 : Int) < (nL : Int) := by omega
  go_enter Try.func23, Try.ntmps23
  go_wp2
  go_ret
  exact ⟨rfl, (Below.refl _ _).alloc (Nat.le_refl _) _⟩

set_option maxRecDepth 100000 in
set_option maxHeartbeats 1000000 in
theorem bare_3 (x : Int) (s : List UInt8) (aF : Option Addr) (nF cF : Nat) (aL : Option Addr) (nL cL : Nat) (w : World) (hnF : nF ≠ 0) :
    Calls Try.prog 23 #[itv 1 s aF nF cF aL nL cL x] w fun e w' => e = .returned (.bool false) ∧ Below w.heap.size w w' := by
  unfold itv
  have e_nF : ((nF : Int) == 0) = false := by rw [beq_eq_false_iff_ne]; omega
  have f_nF : (0 : Int) < (nF : Int) := by omega
  go_enter Try.func23, Try.ntmps23
  go_wp2
  go_ret
  exact ⟨rfl, (Below.refl _ _).alloc (Nat.le_refl _) _⟩

set_option maxRecDepth 100000 in
set_option maxHeartbeats 1000000 in
theorem bare_4 (x : Int) (s : List UInt8) (aF : Option Addr) (nF cF : Nat) (aL : Option Addr) (nL cL : Nat) (w : World) (hs : ¬ s = []) :
    Calls Try.prog 23 #[itv 2 s aF nF cF aL nL cL x] w fun e w' => e = .returned (.bool false) ∧ Below w.heap.size w w' := by
  unfold itv
  go_enter Try.func23, Try.ntmps23
  go_wp2
  go_ret
  exact ⟨rfl, (Below.refl _ _).alloc (Nat.le_refl _) _⟩

set_option maxRecDepth 100000 in
set_option maxHeartbeats 1000000 in
theorem bare_5 (x : Int) (s : List UInt8) (aF : Option Addr) (nF cF : Nat) (aL : Option Addr) (nL cL : Nat) (w : World) (hs : ¬ s = []) :
    Calls Try.prog 23 #[itv 3 s aF nF cF aL nL cL x] w fun e w' => e = .returned (.bool false) ∧ Below w.heap.size w w' := by
  unfold itv
  go_enter Try.func23, Try.ntmps23
  go_wp2
  go_ret
  exact ⟨rfl, (Below.refl _ _).alloc (Nat.le_refl _) _⟩

set_option maxRecDepth 100000 in
set_option maxHeartbeats 1000000 in
theorem bare_6 (x : Int) (s : List UInt8) (aF : Option Addr) (nF cF : Nat) (aL : Option Addr) (nL cL : Nat) (w : World) (hs : ¬ s = []) :
    Calls Try.prog 23 #[itv 4 s aF nF cF aL nL cL x] w fun e w' => e = .returned (.bool false) ∧ Below w.heap.size w w' := by
  unfold itv
  go_enter Try.func23, Try.ntmps23
  go_wp2
  go_ret
  exact ⟨rfl, (Below.refl _ _).alloc (Nat.le_refl _) _⟩

set_option maxRecDepth 100000 in
set_option maxHeartbeats 1000000 in
theorem bare_7 (k x : Int) (s : List UInt8) (aF : Option Addr) (nF cF : Nat) (aL : Option Addr) (nL cL : Nat) (w : World) (h1 : ¬ k = 1) (h2 : ¬ k = 2) (h3 : ¬ k = 3) (h4 : ¬ k = 4) :
    Calls Try.prog 23 #[itv k s aF nF cF aL nL cL x] w fun e w' => e = .returned (.bool false) ∧ Below w.heap.size w w' := by
  unfold itv
  go_enter Try.func23, Try.ntmps23
  go_wp2
  go_ret
  exact ⟨rfl, (Below.refl _ _).alloc (Nat.le_refl _) _⟩

set_option maxRecDepth 100000 in
set_option maxHeartbeats 1000000 in
theorem bare_8 (x : Int) (aF : Option Addr) (nF cF : Nat) (aL : Option Addr) (nL cL : Nat) (w : World) (hnL : nL ≠ 0) :
    Calls Try.prog 23 #[itv 2 [] aF nF cF aL nL cL x] w fun e w' => e = .returned (.bool false) ∧ Below w.heap.size w w' := by
  unfold itv
  have e_nL : ((nL : Int) == 0) = false := by rw [beq_eq_false_iff_ne]; omega
  have f_nL : (0 : Int) < (nL : Int) := by omega
  go_enter Try.func23, Try.ntmps23
  go_wp2
  go_ret
  exact ⟨rfl, (Below.refl _ _).alloc (Nat.le_refl _) _⟩

set_option maxRecDepth 100000 in
set_option maxHeartbeats 1000000 in
theorem bare_9 (x : Int) (aF : Option Addr) (cF : Nat) (aL : Option Addr) (cL : Nat) (w : World) :
    Calls Try.prog 23 #[itv 2 [] aF 0 cF aL 0 cL x] w fun e w' => e = .returned (.bool false) ∧ Below w.heap.size w w' := by
  unfold itv
  go_enter Try.func23, Try.ntmps23
  go_wp2
  go_ret
  exact ⟨rfl, (Below.refl _ _).alloc (Nat.le_refl _) _⟩

set_option maxRecDepth 100000 in
set_option maxHeartbeats 1000000 in
theorem bare_10 (x : Int) (aF : Option Addr) (nF cF : Nat) (aL : Option Addr) (cL : Nat) (w : World) (hnF : nF ≠ 0) :
    Calls Try.prog 23 #[itv 2 [] aF nF cF aL 0 cL x] w fun e w' => e = .returned (.bool true) ∧ Below w.heap.size w w' := by
  unfold itv
  have e_nF : ((nF : Int) == 0) = false := by rw [beq_eq_false_iff_ne]; omega
  have f_nF : (0 : Int) < (nF : Int) := by omega
  go_enter Try.func23, Try.ntmps23
  go_wp2
  go_ret
  exact ⟨congrArg (fun b => Ending.returned (Value.bool b)) (decide_eq_true (by omega)), (Below.refl _ _).alloc (Nat.le_refl _) _⟩

set_option maxRecDepth 100000 in
set_option maxHeartbeats 1000000 in
theorem bare_11 (x : Int) (aF : Option Addr) (nF cF : Nat) (aL : Option Addr) (nL cL : Nat) (w : World) (hnF : nF ≠ 0) :
    Calls Try.prog 23 #[itv 3 [] aF nF cF aL nL cL x] w fun e w' => e = .returned (.bool false) ∧ Below w.heap.size w w' := by
  unfold itv
  have e_nF : ((nF : Int) == 0) = false := by rw [beq_eq_false_iff_ne]; omega
  have f_nF : (0 : Int) < (nF : Int) := by omega
  go_enter Try.func23, Try.ntmps23
  go_wp2
  go_ret
  exact ⟨rfl, (Below.refl _ _).alloc (Nat.le_refl _) _⟩

set_option maxRecDepth 100000 in
set_option maxHeartbeats 1000000 in
theorem bare_12 (x : Int) (aF : Option Addr) (cF : Nat) (aL : Option Addr) (cL : Nat) (w : World) :
    Calls Try.prog 23 #[itv 3 [] aF 0 cF aL 0 cL x] w fun e w' => e = .returned (.bool false) ∧ Below w.heap.size w w' := by
  unfold itv
  go_enter Try.func23, Try.ntmps23
  go_wp2
  go_ret
  exact ⟨rfl, (Below.refl _ _).alloc (Nat.le_refl _) _⟩

set_option maxRecDepth 100000 in
set_option maxHeartbeats 1000000 in
theorem bare_13 (x : Int) (aF : Option Addr) (cF : Nat) (aL : Option Addr) (nL cL : Nat) (w : World) (hnL : nL ≠ 0) :
    Calls Try.prog 23 #[itv 3 [] aF 0 cF aL nL cL x] w fun e w' => e = .returned (.bool true) ∧ Below w.heap.size w w' := by
  unfold itv
  have e_nL : ((nL : Int) == 0) = false := by rw [beq_eq_false_iff_ne]; omega
  have f_nL : (0 : Int) < (nL : Int) := by omega
  go_enter Try.func23, Try.ntmps23
  go_wp2
  go_ret
  exact ⟨congrArg (fun b => Ending.returned (Value.bool b)) (decide_eq_true (by omega)), (Below.refl _ _).alloc (Nat.le_refl _) _⟩

set_option maxRecDepth 100000 in
set_option maxHeartbeats 1000000 in
theorem bare_14 (x : Int) (aF : Option Addr) (nF cF : Nat) (aL : Option Addr) (nL cL : Nat) (w : World) (hnF : nF ≠ 0) :
    Calls Try.prog 23 #[itv 4 [] aF nF cF aL nL cL x] w fun e w' => e = .returned (.bool false) ∧ Below w.heap.size w w' := by
  unfold itv
  have e_nF : ((nF : Int) == 0) = false := by rw [beq_eq_false_iff_ne]; omega
  have f_nF : (0 : Int) < (nF : Int) := by omega
  go_enter Try.func23, Try.ntmps23
  go_wp2
  go_ret
  exact ⟨rfl, (Below.refl _ _).alloc (Nat.le_refl _) _⟩

set_option maxRecDepth 100000 in
set_option maxHeartbeats 1000000 in
theorem bare_15 (x : Int) (aF : Option Addr) (cF : Nat) (aL : Option Addr) (cL : Nat) (w : World) :
    Calls Try.prog 23 #[itv 4 [] aF 0 cF aL 0 cL x] w fun e w' => e = .returned (.bool false) ∧ Below w.heap.size w w' := by
  unfold itv
  go_enter Try.func23, Try.ntmps23
  go_wp2
  go_ret
  exact ⟨rfl, (Below.refl _ _).alloc (Nat.le_refl _) _⟩

set_option maxRecDepth 100000 in
set_option maxHeartbeats 1000000 in
theorem bare_16 (x : Int) (aF : Option Addr) (cF : Nat) (aL : Option Addr) (nL cL : Nat) (w : World) (hnL : nL ≠ 0) :
    Calls Try.prog 23 #[itv 4 [] aF 0 cF aL nL cL x] w fun e w' => e = .returned (.bool true) ∧ Below w.heap.size w w' := by
  unfold itv
  have e_nL : ((nL : Int) == 0) = false := by rw [beq_eq_false_iff_ne]; omega
  have f_nL : (0 : Int) < (nL : Int) := by omega
  go_enter Try.func23, Try.ntmps23
  go_wp2
  go_ret
  exact ⟨congrArg (fun b => Ending.returned (Value.bool b)) (decide_eq_true (by omega)), (Below.refl _ _).alloc (Nat.le_refl _) _⟩

theorem bare_any (k x : Int) (s : List UInt8) (aF : Option Addr) (cF : Nat) (fs : List (List UInt8 × List UInt8)) (aL : Option Addr) (cL : Nat) (ws : List (List UInt8)) (w : World) :
    Calls Try.prog 23 #[itv k s aF fs.length cF aL ws.length cL x] w fun e w' => e = .returned (.bool (It.bareB ⟨k, s, fs, ws, x⟩)) ∧ Below w.heap.size w w' := by
  have hp : ∀ {n : Nat}, ¬ n = 0 → 0 < n := fun h => by omega
  by_cases h1 : k = 1
  · subst h1
    by_cases hf : fs.length = 0
    · by_cases hl : ws.length = 0
      · rw [show It.bareB ⟨1, s, fs, ws, x⟩ = true by simp [It.bareB, hf, hl], hf, hl]
        exact bare_1 x s aF cF aL cL w
      · rw [show It.bareB ⟨1, s, fs, ws, x⟩ = false by simp [It.bareB, hf, hl], hf]
        exact bare_2 x s aF cF aL _ cL w hl
    · rw [show It.bareB ⟨1, s, fs, ws, x⟩ = false by simp [It.bareB, hf]]
      exact bare_3 x s aF _ cF aL _ cL w hf
  by_cases h2 : k = 2
  · subst h2
    by_cases hs : s = []
    · subst hs
      by_cases hl : ws.length = 0
      · rw [hl]
        by_cases hf : fs.length = 0
        · rw [show It.bareB ⟨2, [], fs, ws, x⟩ = false by simp [It.bareB, hf], hf]
          exact bare_9 x aF cF aL cL w
        · rw [show It.bareB ⟨2, [], fs, ws, x⟩ = true by simp [It.bareB, hp hf, hl]]
          exact bare_10 x aF _ cF aL cL w hf
      · rw [show It.bareB ⟨2, [], fs, ws, x⟩ = false by simp [It.bareB, hl]]
        exact bare_8 x aF _ cF aL _ cL w hl
    · rw [show It.bareB ⟨2, s, fs, ws, x⟩ = false by simp [It.bareB, hs]]
      exact bare_4 x s aF _ cF aL _ cL w hs
  by_cases h3 : k = 3
  · subst h3
    by_cases hs : s = []
    · subst hs
      by_cases hf : fs.length = 0
      · rw [hf]
        by_cases hl : ws.length = 0
        · rw [show It.bareB ⟨3, [], fs, ws, x⟩ = false by simp [It.bareB, hl], hl]
          exact bare_12 x aF cF aL cL w
        · rw [show It.bareB ⟨3, [], fs, ws, x⟩ = true by simp [It.bareB, hp hl, hf]]
          exact bare_13 x aF cF aL _ cL w hl
      · rw [show It.bareB ⟨3, [], fs, ws, x⟩ = false by simp [It.bareB, hf]]
        exact bare_11 x aF _ cF aL _ cL w hf
    · rw [show It.bareB ⟨3, s, fs, ws, x⟩ = false by simp [It.bareB, hs]]
      exact bare_5 x s aF _ cF aL _ cL w hs
  by_cases h4 : k = 4
  · subst h4
    by_cases hs : s = []
    · subst hs
      by_cases hf : fs.length = 0
      · rw [hf]
        by_cases hl : ws.length = 0
        · rw [show It.bareB ⟨4, [], fs, ws, x⟩ = false by simp [It.bareB, hl], hl]
          exact bare_15 x aF cF aL cL w
        · rw [show It.bareB ⟨4, [], fs, ws, x⟩ = true by simp [It.bareB, hp hl, hf]]
          exact bare_16 x aF cF aL _ cL w hl
      · rw [show It.bareB ⟨4, [], fs, ws, x⟩ = false by simp [It.bareB, hf]]
        exact bare_14 x aF _ cF aL _ cL w hf
    · rw [show It.bareB ⟨4, s, fs, ws, x⟩ = false by simp [It.bareB, hs]]
      exact bare_6 x s aF _ cF aL _ cL w hs
  · rw [show It.bareB ⟨k, s, fs, ws, x⟩ = false by simp [It.bareB, h1, h2, h3, h4]]
    exact bare_7 k x s aF _ cF aL _ cL w h1 h2 h3 h4

set_option maxRecDepth 100000 in
set_option maxHeartbeats 1000000 in
theorem refMay_1 (k x : Int) (s : List UInt8) (aF : Option Addr) (cF : Nat) (fs : List (List UInt8 × List UInt8)) (aL : Option Addr) (cL : Nat) (ws : List (List UInt8)) (w : World) (hbr : It.bareB ⟨k, s, fs, ws, x⟩ = false) :
    Calls Try.prog 11 #[itv k s aF fs.length cF aL ws.length cL x] w fun e w' => e = .returned (.bool false) ∧ Below w.heap.size w w' := by
  unfold itv
  have hb := fun W => bare_any k x s aF cF fs aL cL ws W
  rw [hbr] at hb
  unfold itv at hb
  have HBr := Lib.hid hb
  clear hb hbr
  generalize fs.length = nF at *
  generalize ws.length = nL at *
  go_enter Try.func11, Try.ntmps11
  go_wp2_with fail
  refine (HBr.out _).mono ?_
  rintro e w1 ⟨rfl, hb⟩
  have HB := Lib.hid hb
  obtain ⟨hcl, -⟩ := bcell hb
  clear hb
  simp only [World.size_alloc] at hcl
  go_wp2
  go_ret
  exact ⟨rfl, ((Below.refl _ w).alloc (Nat.le_refl _) _).trans (HB.out.mono (by simp))⟩

set_option maxRecDepth 100000 in
set_option maxHeartbeats 1000000 in
theorem refMay_2 (k x : Int) (s : List UInt8) (aF : Option Addr) (cF : Nat) (fs : List (List UInt8 × List UInt8)) (aL : Option Addr) (cL : Nat) (ws : List (List UInt8)) (w : World) (hbr : It.bareB ⟨k, s, fs, ws, x⟩ = true) (hs : 300 < s.length) :
    Calls Try.prog 11 #[itv k s aF fs.length cF aL ws.length cL x] w fun e w' => e = .returned (.bool false) ∧ Below w.heap.size w w' := by
  unfold itv
  have hb := fun W => bare_any k x s aF cF fs aL cL ws W
  rw [hbr] at hb
  unfold itv at hb
  have HBr := Lib.hid hb
  clear hb hbr
  generalize fs.length = nF at *
  generalize ws.length = nL at *
  have e1 : (300 : Int) < (s.length : Int) := by omega
  clear hs
  go_enter Try.func11, Try.ntmps11
  go_wp2_with fail
  refine (HBr.out _).mono ?_
  rintro e w1 ⟨rfl, hb⟩
  have HB := Lib.hid hb
  obtain ⟨hcl, -⟩ := bcell hb
  clear hb
  simp only [World.size_alloc] at hcl
  go_wp2
  go_ret
  exact ⟨rfl, ((Below.refl _ w).alloc (Nat.le_refl _) _).trans (HB.out.mono (by simp))⟩

set_option maxRecDepth 100000 in
set_option maxHeartbeats 1000000 in
theorem refMay_3 (k x : Int) (s : List UInt8) (aF : Option Addr) (cF : Nat) (fs : List (List UInt8 × List UInt8)) (aL : Option Addr) (cL : Nat) (ws : List (List UInt8)) (w : World) (hbr : It.bareB ⟨k, s, fs, ws, x⟩ = true) (hs : s.length ≤ 300) (hf : 40 < fs.length) :
    Calls Try.prog 11 #[itv k s aF fs.length cF aL ws.length cL x] w fun e w' => e = .returned (.bool false) ∧ Below w.heap.size w w' := by
  unfold itv
  have hb := fun W => bare_any k x s aF cF fs aL cL ws W
  rw [hbr] at hb
  unfold itv at hb
  have HBr := Lib.hid hb
  clear hb hbr
  generalize fs.length = nF at *
  generalize ws.length = nL at *
  have e1 : (s.length : Int) ≤ 300 := by omega
  clear hs
  have e2 : (40 : Int) < (nF : Int) := by omega
  clear hf
  go_enter Try.func11, Try.ntmps11
  go_wp2_with fail
  refine (HBr.out _).mono ?_
  rintro e w1 ⟨rfl, hb⟩
  have HB := Lib.hid hb
  obtain ⟨hcl, -⟩ := bcell hb
  clear hb
  simp only [World.size_alloc] at hcl
  go_wp2
  go_ret
  exact ⟨rfl, ((Below.refl _ w).alloc (Nat.le_refl _) _).trans (HB.out.mono (by simp))⟩

set_option maxRecDepth 100000 in
set_option maxHeartbeats 1000000 in
theorem refMay_4 (k x : Int) (s : List UInt8) (aF : Option Addr) (cF : Nat) (fs : List (List UInt8 × List UInt8)) (aL : Option Addr) (cL : Nat) (ws : List (List UInt8)) (w : World) (hbr : It.bareB ⟨k, s, fs, ws, x⟩ = true) (hs : s.length ≤ 300) (hf : fs.length ≤ 40) (hl : 40 < ws.length) :
    Calls Try.prog 11 #[itv k s aF fs.length cF aL ws.length cL x] w fun e w' => e = .returned (.bool false) ∧ Below w.heap.size w w' := by
  unfold itv
  have hb := fun W => bare_any k x s aF cF fs aL cL ws W
  rw [hbr] at hb
  unfold itv at hb
  have HBr := Lib.hid hb
  clear hb hbr
  generalize fs.length = nF at *
  generalize ws.length = nL at *
  have e1 : (s.length : Int) ≤ 300 := by omega
  clear hs
  have e2 : (nF : Int) ≤ 40 := by omega
  clear hf
  have e3 : (40 : Int) < (nL : Int) := by omega
  clear hl
  go_enter Try.func11, Try.ntmps11
  go_wp2_with fail
  refine (HBr.out _).mono ?_
  rintro e w1 ⟨rfl, hb⟩
  have HB := Lib.hid hb
  obtain ⟨hcl, -⟩ := bcell hb
  clear hb
  simp only [World.size_alloc] at hcl
  go_wp2
  go_ret
  exact ⟨rfl, ((Below.refl _ w).alloc (Nat.le_refl _) _).trans (HB.out.mono (by simp))⟩

set_option maxRecDepth 100000 in
set_option maxHeartbeats 1000000 in
theorem refMay_5 (k x : Int) (s : List UInt8) (aF : Option Addr) (cF : Nat) (fs : List (List UInt8 × List UInt8)) (aL : Option Addr) (cL : Nat) (ws : List (List UInt8)) (w : World) (hbr : It.bareB ⟨k, s, fs, ws, x⟩ = true) (hs : s.length ≤ 300) (hf : fs.length ≤ 40) (hl : ws.length ≤ 40) (hx : x < 0) :
    Calls Try.prog 11 #[itv k s aF fs.length cF aL ws.length cL x] w fun e w' => e = .returned (.bool false) ∧ Below w.heap.size w w' := by
  unfold itv
  have hb := fun W => bare_any k x s aF cF fs aL cL ws W
  rw [hbr] at hb
  unfold itv at hb
  have HBr := Lib.hid hb
  clear hb hbr
  generalize fs.length = nF at *
  generalize ws.length = nL at *
  have e1 : (s.length : Int) ≤ 300 := by omega
  clear hs
  have e2 : (nF : Int) ≤ 40 := by omega
  clear hf
  have e3 : (nL : Int) ≤ 40 := by omega
  clear hl
  go_enter Try.func11, Try.ntmps11
  go_wp2_with fail
  refine (HBr.out _).mono ?_
  rintro e w1 ⟨rfl, hb⟩
  have HB := Lib.hid hb
  obtain ⟨hcl, -⟩ := bcell hb
  clear hb
  simp only [World.size_alloc] at hcl
  go_wp2
  go_ret
  exact ⟨rfl, ((Below.refl _ w).alloc (Nat.le_refl _) _).trans (HB.out.mono (by simp))⟩

set_option maxRecDepth 100000 in
set_option maxHeartbeats 1000000 in
theorem refMay_6 (k x : Int) (s : List UInt8) (aF : Option Addr) (cF : Nat) (fs : List (List UInt8 × List UInt8)) (aL : Option Addr) (cL : Nat) (ws : List (List UInt8)) (w : World) (hbr : It.bareB ⟨k, s, fs, ws, x⟩ = true) (hs : s.length ≤ 300) (hf : fs.length ≤ 40) (hl : ws.length ≤ 40) (hx0 : 0 ≤ x) (hx : 9007199254740992 < x) :
    Calls Try.prog 11 #[itv k s aF fs.length cF aL ws.length cL x] w fun e w' => e = .returned (.bool false) ∧ Below w.heap.size w w' := by
  unfold itv
  have hb := fun W => bare_any k x s aF cF fs aL cL ws W
  rw [hbr] at hb
  unfold itv at hb
  have HBr := Lib.hid hb
  clear hb hbr
  generalize fs.length = nF at *
  generalize ws.length = nL at *
  have e1 : (s.length : Int) ≤ 300 := by omega
  clear hs
  have e2 : (nF : Int) ≤ 40 := by omega
  clear hf
  have e3 : (nL : Int) ≤ 40 := by omega
  clear hl
  go_enter Try.func11, Try.ntmps11
  go_wp2_with fail
  refine (HBr.out _).mono ?_
  rintro e w1 ⟨rfl, hb⟩
  have HB := Lib.hid hb
  obtain ⟨hcl, -⟩ := bcell hb
  clear hb
  simp only [World.size_alloc] at hcl
  go_wp2
  go_ret
  exact ⟨rfl, ((Below.refl _ w).alloc (Nat.le_refl _) _).trans (HB.out.mono (by simp))⟩

end Go.Proofs.Ytdnonginlbjcoaa
