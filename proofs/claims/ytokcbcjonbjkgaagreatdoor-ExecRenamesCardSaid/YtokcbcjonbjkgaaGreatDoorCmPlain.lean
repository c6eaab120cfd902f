/- Plain mathematics of the table of commands (chapter 4): which commands there are, which words call one, which of these are keys. No program in it. -/
namespace Go.Proofs.YtokcbcjonbjkgaaGreatDoor
namespace Cm

/-- a row of the table. -/
structure Sp where
  nm : List UInt8
  least : Int
  most : Int
  first : Int
  last : Int
  step : Int
  wr : Bool
deriving DecidableEq, Inhabited

def tabA : List Sp := [
  ⟨[80, 73, 78, 71], 1, 1, 0, 0, 0, false⟩]
def tabB : List Sp := [
  ⟨[71, 69, 84], 2, 2, 1, 1, 1, false⟩,
  ⟨[83, 69, 84], 3, 3, 1, 1, 1, true⟩,
  ⟨[83, 69, 84, 78, 88], 3, 3, 1, 1, 1, true⟩,
  ⟨[83, 69, 84, 69, 88], 4, 4, 1, 1, 1, true⟩,
  ⟨[71, 69, 84, 83, 69, 84], 3, 3, 1, 1, 1, true⟩,
  ⟨[65, 80, 80, 69, 78, 68], 3, 3, 1, 1, 1, true⟩,
  ⟨[83, 84, 82, 76, 69, 78], 2, 2, 1, 1, 1, false⟩,
  ⟨[71, 69, 84, 82, 65, 78, 71, 69], 4, 4, 1, 1, 1, false⟩,
  ⟨[83, 69, 84, 82, 65, 78, 71, 69], 4, 4, 1, 1, 1, true⟩,
  ⟨[73, 78, 67, 82], 2, 2, 1, 1, 1, true⟩,
  ⟨[68, 69, 67, 82], 2, 2, 1, 1, 1, true⟩,
  ⟨[73, 78, 67, 82, 66, 89], 3, 3, 1, 1, 1, true⟩,
  ⟨[68, 69, 67, 82, 66, 89], 3, 3, 1, 1, 1, true⟩,
  ⟨[77, 71, 69, 84], 2, 0, 1, -1, 1, false⟩,
  ⟨[77, 83, 69, 84], 3, 0, 1, -1, 2, true⟩,
  ⟨[77, 83, 69, 84, 78, 88], 3, 0, 1, -1, 2, true⟩]
def tabC : List Sp := [
  ⟨[68, 69, 76], 2, 0, 1, -1, 1, true⟩,
  ⟨[69, 88, 73, 83, 84, 83], 2, 0, 1, -1, 1, false⟩,
  ⟨[84, 89, 80, 69], 2, 2, 1, 1, 1, false⟩,
  ⟨[69, 88, 80, 73, 82, 69], 3, 3, 1, 1, 1, true⟩,
  ⟨[84, 84, 76], 2, 2, 1, 1, 1, false⟩,
  ⟨[80, 69, 82, 83, 73, 83, 84], 2, 2, 1, 1, 1, true⟩,
  ⟨[82, 69, 78, 65, 77, 69], 3, 3, 1, 2, 1, true⟩]
def tabD : List Sp := [
  ⟨[72, 83, 69, 84], 4, 0, 1, 1, 1, true⟩,
  ⟨[72, 71, 69, 84], 3, 3, 1, 1, 1, false⟩,
  ⟨[72, 68, 69, 76], 3, 0, 1, 1, 1, true⟩,
  ⟨[72, 76, 69, 78], 2, 2, 1, 1, 1, false⟩,
  ⟨[72, 69, 88, 73, 83, 84, 83], 3, 3, 1, 1, 1, false⟩,
  ⟨[72, 75, 69, 89, 83], 2, 2, 1, 1, 1, false⟩,
  ⟨[72, 86, 65, 76, 83], 2, 2, 1, 1, 1, false⟩,
  ⟨[72, 71, 69, 84, 65, 76, 76], 2, 2, 1, 1, 1, false⟩,
  ⟨[72, 73, 78, 67, 82, 66, 89], 4, 4, 1, 1, 1, true⟩,
  ⟨[72, 77, 71, 69, 84], 3, 0, 1, 1, 1, false⟩]
def tabE : List Sp := [
  ⟨[76, 80, 85, 83, 72], 3, 0, 1, 1, 1, true⟩,
  ⟨[82, 80, 85, 83, 72], 3, 0, 1, 1, 1, true⟩,
  ⟨[76, 80, 79, 80], 2, 2, 1, 1, 1, true⟩,
  ⟨[82, 80, 79, 80], 2, 2, 1, 1, 1, true⟩,
  ⟨[76, 76, 69, 78], 2, 2, 1, 1, 1, false⟩,
  ⟨[76, 82, 65, 78, 71, 69], 4, 4, 1, 1, 1, false⟩,
  ⟨[76, 73, 78, 68, 69, 88], 3, 3, 1, 1, 1, false⟩,
  ⟨[76, 83, 69, 84], 4, 4, 1, 1, 1, true⟩,
  ⟨[76, 84, 82, 73, 77], 4, 4, 1, 1, 1, true⟩,
  ⟨[76, 82, 69, 77], 4, 4, 1, 1, 1, true⟩]
def tabF : List Sp := [
  ⟨[83, 65, 68, 68], 3, 0, 1, 1, 1, true⟩,
  ⟨[83, 82, 69, 77], 3, 0, 1, 1, 1, true⟩,
  ⟨[83, 67, 65, 82, 68], 2, 2, 1, 1, 1, false⟩,
  ⟨[83, 73, 83, 77, 69, 77, 66, 69, 82], 3, 3, 1, 1, 1, false⟩,
  ⟨[83, 77, 69, 77, 66, 69, 82, 83], 2, 2, 1, 1, 1, false⟩,
  ⟨[83, 80, 79, 80], 2, 2, 1, 1, 1, true⟩,
  ⟨[83, 77, 79, 86, 69], 4, 4, 1, 2, 1, true⟩,
  ⟨[83, 73, 78, 84, 69, 82], 2, 0, 1, -1, 1, false⟩,
  ⟨[83, 85, 78, 73, 79, 78], 2, 0, 1, -1, 1, false⟩,
  ⟨[83, 68, 73, 70, 70], 2, 0, 1, -1, 1, false⟩]

def tab : List Sp := tabA ++ (tabB ++ (tabC ++ (tabD ++ (tabE ++ tabF))))

/-- the names, rising. -/
def names : List (List UInt8) := [
  [65, 80, 80, 69, 78, 68],
  [68, 69, 67, 82],
  [68, 69, 67, 82, 66, 89],
  [68, 69, 76],
  [69, 88, 73, 83, 84, 83],
  [69, 88, 80, 73, 82, 69],
  [71, 69, 84],
  [71, 69, 84, 82, 65, 78, 71, 69],
  [71, 69, 84, 83, 69, 84],
  [72, 68, 69, 76],
  [72, 69, 88, 73, 83, 84, 83],
  [72, 71, 69, 84],
  [72, 71, 69, 84, 65, 76, 76],
  [72, 73, 78, 67, 82, 66, 89],
  [72, 75, 69, 89, 83],
  [72, 76, 69, 78],
  [72, 77, 71, 69, 84],
  [72, 83, 69, 84],
  [72, 86, 65, 76, 83],
  [73, 78, 67, 82],
  [73, 78, 67, 82, 66, 89],
  [76, 73, 78, 68, 69, 88],
  [76, 76, 69, 78],
  [76, 80, 79, 80],
  [76, 80, 85, 83, 72],
  [76, 82, 65, 78, 71, 69],
  [76, 82, 69, 77],
  [76, 83, 69, 84],
  [76, 84, 82, 73, 77],
  [77, 71, 69, 84],
  [77, 83, 69, 84],
  [77, 83, 69, 84, 78, 88],
  [80, 69, 82, 83, 73, 83, 84],
  [80, 73, 78, 71],
  [82, 69, 78, 65, 77, 69],
  [82, 80, 79, 80],
  [82, 80, 85, 83, 72],
  [83, 65, 68, 68],
  [83, 67, 65, 82, 68],
  [83, 68, 73, 70, 70],
  [83, 69, 84],
  [83, 69, 84, 69, 88],
  [83, 69, 84, 78, 88],
  [83, 69, 84, 82, 65, 78, 71, 69],
  [83, 73, 78, 84, 69, 82],
  [83, 73, 83, 77, 69, 77, 66, 69, 82],
  [83, 77, 69, 77, 66, 69, 82, 83],
  [83, 77, 79, 86, 69],
  [83, 80, 79, 80],
  [83, 82, 69, 77],
  [83, 84, 82, 76, 69, 78],
  [83, 85, 78, 73, 79, 78],
  [84, 84, 76],
  [84, 89, 80, 69]]

/-- a letter a to z as A to Z. -/
def cap (b : UInt8) : UInt8 := if 97 ≤ b ∧ b ≤ 122 then b - 32 else b
def upS (l : List UInt8) : List UInt8 := l.map cap

/-- Find. -/
def hit (n : List UInt8) (s : Sp) : Bool := s.nm == upS n
def findS (n : List UInt8) : Option Sp := tab.find? (hit n)

/-- may a call of the command have so many words? -/
def countOk (s : Sp) (n : Nat) : Bool :=
  !(decide ((n : Int) < s.least) || (decide (0 < s.most) && decide (s.most < (n : Int)))) &&
    (if s.nm = [77, 83, 69, 84] ∨ s.nm = [77, 83, 69, 84, 78, 88] then n % 2 == 1 else if s.nm = [72, 83, 69, 84] then n % 2 == 0 else true)

/-- the last key's index, how many keys there are, which. -/
def lastI (s : Sp) (n : Nat) : Int := if s.last < 0 then s.last + n else s.last
def cnt (s : Sp) (n : Nat) : Nat := if s.first = 0 then 0 else if s.step = 1 then (lastI s n).toNat else ((lastI s n + 1) / 2).toNat
def keysS (s : Sp) (ws : List (List UInt8)) : List (List UInt8) := (List.range (cnt s ws.length)).map fun k => ws.getD (1 + k * s.step.toNat) []

/-- Check, Keys. -/
def checkS (ws : List (List UInt8)) : Option Sp :=
  if ws.length = 0 ∨ 100 < ws.length then none else
    match findS (ws.getD 0 []) with
    | none => none
    | some s => if countOk s ws.length && (keysS s ws).all (fun k => decide (k.length ≤ 40)) then some s else none
def keysOf (ws : List (List UInt8)) : List (List UInt8) := match checkS ws with | none => [] | some s => keysS s ws

/-- what is so of each row. -/
def Ok (s : Sp) : Prop := 1 ≤ s.nm.length ∧ s.nm.length ≤ 9 ∧ 1 ≤ s.least ∧ s.least ≤ 4 ∧ 0 ≤ s.most ∧ s.most ≤ 4 ∧
  ((s.first = 0 ∧ s.last = 0 ∧ s.step = 0) ∨ (s.first = 1 ∧ (s.step = 1 ∨ s.step = 2 ∧ s.last = -1) ∧ (s.last = -1 ∨ s.last = 1 ∨ s.last = 2) ∧ s.last < s.least ∧ 2 ≤ s.least))
instance (s : Sp) : Decidable (Ok s) := by unfold Ok; infer_instance
theorem tab_ok : ∀ s ∈ tab, Ok s := by decide +kernel
theorem tab_len : tab.length = 54 := by decide +kernel

theorem findS_ok {n : List UInt8} {s : Sp} (h : findS n = some s) : Ok s := tab_ok s (List.mem_of_find?_eq_some h)
theorem findS_name {n : List UInt8} {s : Sp} (h : findS n = some s) : s.nm = upS n := by
  have := List.find?_some h
  simpa [hit] using this

theorem find_done {n : List UInt8} (h : ∀ s ∈ tab, hit n s = false) : findS n = none := by
  unfold findS
  rw [List.find?_eq_none]
  intro s hs
  rw [h s hs]
  simp
theorem find_stop {n : List UInt8} {pre : List Sp} {x : Sp} (hp : pre ++ [x] <+: tab) (h : ∀ s ∈ pre, hit n s = false) (hx : hit n x = true) : findS n = some x := by
  obtain ⟨t, ht⟩ := hp
  unfold findS
  rw [← ht, List.append_assoc, List.find?_append, List.find?_eq_none.2 (by intro s hs; rw [h s hs]; simp)]
  simp [hx]

theorem getD_eq {α : Type} {l : List α} {d : α} {k : Nat} (h : k < l.length) : l.getD k d = l[k] := by simp [List.getD, h]
theorem take_succ {α : Type} {l : List α} (d : α) {k : Nat} (h : k < l.length) : l.take (k + 1) = l.take k ++ [l.getD k d] := by
  rw [List.take_succ_eq_append_getElem h, getD_eq h]

theorem keysS_len (s : Sp) (ws : List (List UInt8)) : (keysS s ws).length = cnt s ws.length := by simp [keysS]
theorem keysS_get {s : Sp} {ws : List (List UInt8)} {k : Nat} (h : k < cnt s ws.length) : (keysS s ws).getD k [] = ws.getD (1 + k * s.step.toNat) [] := by
  rw [getD_eq (by rw [keysS_len]; exact h)]
  simp [keysS]

theorem cnt_lt1 {s : Sp} {n k : Nat} (h1 : s.first = 1) (h2 : s.step = 1) : k < cnt s n ↔ 1 + (k : Int) ≤ lastI s n := by
  unfold cnt
  rw [if_neg (by omega), if_pos h2]
  omega
theorem cnt_lt2 {s : Sp} {n k : Nat} (h1 : s.first = 1) (h2 : s.step = 2) : k < cnt s n ↔ 1 + 2 * (k : Int) ≤ lastI s n := by
  unfold cnt
  rw [if_neg (by omega), if_neg (by omega)]
  omega

theorem lastI_lt {s : Sp} {n : Nat} (ho : Ok s) (h1 : s.first = 1) (hn : s.least ≤ n) : 0 ≤ lastI s n ∧ lastI s n < n := by
  obtain ⟨_, _, _, _, _, _, ⟨h, _⟩ | ⟨_, hst, hla, hll, h2⟩⟩ := ho
  · omega
  · unfold lastI
    rcases hla with h | h | h
    · rw [if_pos (by omega)]; omega
    · rw [if_neg (by omega)]; omega
    · rw [if_neg (by omega)]; omega

theorem countOk_least {s : Sp} {n : Nat} (h : countOk s n = true) : s.least ≤ n := by
  unfold countOk at h
  simp only [Bool.and_eq_true, Bool.not_eq_true', Bool.or_eq_false_iff, decide_eq_false_iff_not] at h
  omega

end Cm
end Go.Proofs.YtokcbcjonbjkgaaGreatDoor
