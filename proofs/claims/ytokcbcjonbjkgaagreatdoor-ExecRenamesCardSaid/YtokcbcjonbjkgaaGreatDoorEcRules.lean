/- The rules of the program's exec: the table, its parts in memory. -/
import Derived.Test.YtokcbcjonbjkgaaGreatDoorWds
import Derived.Test.YtokcbcjonbjkgaaGreatDoorSeq
import Derived.WalkKit
import Derived.Test.YtokcbcjonbjkgaaGreatDoorRww
namespace Go.Proofs.YtokcbcjonbjkgaaGreatDoor
open Go.RowKit Go.Shelf
attribute [local go_sem] Oper.semAt_some
set_option linter.unusedVariables false
set_option linter.unusedSimpArgs false
namespace Ru
/-- a rule without its kind: its name, the places of its numbers, its function. -/
structure Rl where
  nm : List UInt8
  ids : List Nat
  fn : Nat
def tabAny : List Rl := [⟨[80, 73, 78, 71], [], 107⟩, ⟨[83, 69, 84], [], 108⟩, ⟨[83, 69, 84, 78, 88], [], 109⟩, ⟨[83, 69, 84, 69, 88], [2], 110⟩, ⟨[77, 71, 69, 84], [], 111⟩, ⟨[77, 83, 69, 84], [], 112⟩, ⟨[77, 83, 69, 84, 78, 88], [], 113⟩, ⟨[68, 69, 76], [], 114⟩, ⟨[69, 88, 73, 83, 84, 83], [], 115⟩, ⟨[84, 89, 80, 69], [], 116⟩, ⟨[69, 88, 80, 73, 82, 69], [2], 117⟩, ⟨[84, 84, 76], [], 118⟩, ⟨[80, 69, 82, 83, 73, 83, 84], [], 119⟩, ⟨[82, 69, 78, 65, 77, 69], [], 120⟩]
def tabTexts : List Rl := [⟨[71, 69, 84], [], 69⟩, ⟨[71, 69, 84, 83, 69, 84], [], 70⟩, ⟨[65, 80, 80, 69, 78, 68], [], 71⟩, ⟨[83, 84, 82, 76, 69, 78], [], 72⟩, ⟨[71, 69, 84, 82, 65, 78, 71, 69], [2, 3], 73⟩, ⟨[83, 69, 84, 82, 65, 78, 71, 69], [2], 74⟩, ⟨[73, 78, 67, 82], [], 75⟩, ⟨[68, 69, 67, 82], [], 76⟩, ⟨[73, 78, 67, 82, 66, 89], [2], 77⟩, ⟨[68, 69, 67, 82, 66, 89], [2], 78⟩]
def tabHashes : List Rl := [⟨[72, 83, 69, 84], [], 79⟩, ⟨[72, 71, 69, 84], [], 80⟩, ⟨[72, 68, 69, 76], [], 81⟩, ⟨[72, 76, 69, 78], [], 82⟩, ⟨[72, 69, 88, 73, 83, 84, 83], [], 83⟩, ⟨[72, 75, 69, 89, 83], [], 84⟩, ⟨[72, 86, 65, 76, 83], [], 85⟩, ⟨[72, 71, 69, 84, 65, 76, 76], [], 86⟩, ⟨[72, 73, 78, 67, 82, 66, 89], [3], 87⟩, ⟨[72, 77, 71, 69, 84], [], 88⟩]
def tabLists : List Rl := [⟨[76, 80, 85, 83, 72], [], 89⟩, ⟨[82, 80, 85, 83, 72], [], 90⟩, ⟨[76, 80, 79, 80], [], 91⟩, ⟨[82, 80, 79, 80], [], 92⟩, ⟨[76, 76, 69, 78], [], 93⟩, ⟨[76, 82, 65, 78, 71, 69], [2, 3], 94⟩, ⟨[76, 73, 78, 68, 69, 88], [2], 95⟩, ⟨[76, 83, 69, 84], [2], 96⟩, ⟨[76, 84, 82, 73, 77], [2, 3], 97⟩, ⟨[76, 82, 69, 77], [2], 98⟩]
def tabSets : List Rl := [⟨[83, 65, 68, 68], [], 99⟩, ⟨[83, 82, 69, 77], [], 100⟩, ⟨[83, 67, 65, 82, 68], [], 93⟩, ⟨[83, 73, 83, 77, 69, 77, 66, 69, 82], [], 101⟩, ⟨[83, 77, 69, 77, 66, 69, 82, 83], [], 102⟩, ⟨[83, 80, 79, 80], [], 91⟩, ⟨[83, 77, 79, 86, 69], [], 103⟩, ⟨[83, 73, 78, 84, 69, 82], [], 104⟩, ⟨[83, 85, 78, 73, 79, 78], [], 105⟩, ⟨[83, 68, 73, 70, 70], [], 106⟩]
/-- a rule with its kind. -/
structure Rk where
  k : Int
  r : Rl
def tab : List Rk := tabAny.map (⟨0, ·⟩) ++ (tabTexts.map (⟨1, ·⟩) ++ (tabHashes.map (⟨2, ·⟩) ++ (tabLists.map (⟨3, ·⟩) ++ tabSets.map (⟨4, ·⟩))))
def find (nm : List UInt8) : Option Rk := tab.find? fun x => x.r.nm == nm
end Ru

/-- the numbers of a rule lie in a block. -/
def NumsIn (w : World) (na : Option Nat) (ids : List Nat) : Prop := match na with | none => ids = [] | some b => w.heap[b]? = some (.cells (ids.map fun (i : Nat) => Value.int .i64 (i : Int)).toArray 3 (0, 0))
theorem NumsIn.keep {w w' : World} {na : Option Nat} {ids : List Nat} (h : NumsIn w na ids) {S : Nat → Prop} (hk : Keeps S w w') (hS : ∀ b, na = some b → S b) : NumsIn w' na ids := by
  cases na with
  | none => exact h
  | some b => exact hk.heap h (hS b rfl)
def numsV (na : Option Nat) (n : Nat) : Value := .slice (na.map fun b => ⟨b, 0, none⟩) n n
/-- a rule as a value, as cells. -/
def rlL (k : Int) (r : Ru.Rl) (na : Option Nat) : List Value := [.string ⟨r.nm.toArray⟩, .int .i64 k, numsV na r.ids.length, .func (.func r.fn) #[] #[]]
def rlV (k : Int) (r : Ru.Rl) (na : Option Nat) : Value := .agg #[.string ⟨r.nm.toArray⟩, .int .i64 k, numsV na r.ids.length, .func (.func r.fn) #[] #[]]
/-- a rule's cells at a place. -/
def RlAt (w : World) (b o : Nat) (k : Int) (r : Ru.Rl) (na : Option Nat) : Prop :=
  w.cell? ⟨b, o, none⟩ = some (.string ⟨r.nm.toArray⟩) ∧ w.cell? ⟨b, o + 1, none⟩ = some (.int .i64 k) ∧ w.cell? ⟨b, o + 2, none⟩ = some (numsV na r.ids.length) ∧ w.cell? ⟨b, o + 3, none⟩ = some (.func (.func r.fn) #[] #[])
/-- a row of rules. -/
def RlRow (w : World) (b : Nat) (rs : List (Ru.Rl × Option Nat)) : Prop :=
  b < w.heap.size ∧ ∀ k (h : k < rs.length), RlAt w b (k * 4) 0 rs[k].1 rs[k].2 ∧ NumsIn w rs[k].2 rs[k].1.ids
theorem rl_flat (sub : List (Ru.Rl × Option Nat)) (k : Nat) (h : k < sub.length) (j : Nat) (hj : j < 4) : (sub.flatMap fun x => rlL 0 x.1 x.2)[k * 4 + j]? = (rlL 0 sub[k].1 sub[k].2)[j]? := by
  induction sub generalizing k with
  | nil => simp at h
  | cons s r ih =>
    rw [List.flatMap_cons]
    have hl : (rlL 0 s.1 s.2).length = 4 := rfl
    cases k with
    | zero => rw [List.getElem?_append_left (by omega)]; simp
    | succ k =>
      rw [List.getElem?_append_right (by omega), hl, show (k + 1) * 4 + j - 4 = k * 4 + j by omega, ih k (by simpa using h)]
      simp
theorem rlRow_of {w : World} {b : Nat} {rs : List (Ru.Rl × Option Nat)} (h : w.heap[b]? = some (.cells (rs.flatMap fun x => rlL 0 x.1 x.2).toArray 58 (0, 0))) (hn : ∀ x ∈ rs, NumsIn w x.2 x.1.ids) : RlRow w b rs := by
  refine ⟨(Array.getElem?_eq_some_iff.1 h).1, fun k hk => ⟨?_, hn _ (List.getElem_mem hk)⟩⟩
  have hc : ∀ j, j < 4 → w.cell? ⟨b, k * 4 + j, none⟩ = (rlL 0 rs[k].1 rs[k].2)[j]? := fun j hj => by
    rw [cell_of_row _ _ _ _ 58 (0, 0) h]
    simpa using rl_flat rs k hk j hj
  exact ⟨hc 0 (by omega), hc 1 (by omega), hc 2 (by omega), hc 3 (by omega)⟩
theorem RlRow.keep {w w' : World} {b : Nat} {rs : List (Ru.Rl × Option Nat)} (h : RlRow w b rs) {S : Nat → Prop} (hk : Keeps S w w') (hb : S b) (hS : ∀ x ∈ rs, ∀ g, x.2 = some g → S g) : RlRow w' b rs := by
  refine ⟨Nat.lt_of_lt_of_le h.1 hk.size, fun k hk' => ?_⟩
  obtain ⟨⟨h0, h1, h2, h3⟩, h4⟩ := h.2 k hk'
  have e : ∀ o, w'.cell? ⟨b, o, none⟩ = w.cell? ⟨b, o, none⟩ := fun o => hk.cell (p := ⟨b, o, none⟩) h.1 hb
  exact ⟨⟨(e _).trans h0, (e _).trans h1, (e _).trans h2, (e _).trans h3⟩, h4.keep hk (hS _ (List.getElem_mem hk'))⟩
/-- what a part of the table tells. -/
def RlOut (tab : List Ru.Rl) (w : World) (e : Ending) (W : World) : Prop :=
  ∃ b rs, e = .returned (.slice (some ⟨b, 0, none⟩) tab.length tab.length) ∧ rs.map Prod.fst = tab ∧ RlRow W b rs ∧ Keeps (fun _ => True) w W ∧ w.heap.size ≤ b ∧ ∀ x ∈ rs, ∀ g, x.2 = some g → w.heap.size ≤ g

set_option maxRecDepth 100000 in
set_option maxHeartbeats 4000000 in
theorem rulesAny_any (w : World) : Calls Tryz.prog 55 #[] w (RlOut Ru.tabAny w) := by
  have HF : Hid (∀ A : Array Value, A = (([(⟨[80, 73, 78, 71], [], 107⟩, none), (⟨[83, 69, 84], [], 108⟩, none), (⟨[83, 69, 84, 78, 88], [], 109⟩, none), (⟨[83, 69, 84, 69, 88], [2], 110⟩, some w.heap.size), (⟨[77, 71, 69, 84], [], 111⟩, none), (⟨[77, 83, 69, 84], [], 112⟩, none), (⟨[77, 83, 69, 84, 78, 88], [], 113⟩, none), (⟨[68, 69, 76], [], 114⟩, none), (⟨[69, 88, 73, 83, 84, 83], [], 115⟩, none), (⟨[84, 89, 80, 69], [], 116⟩, none), (⟨[69, 88, 80, 73, 82, 69], [2], 117⟩, some (w.heap.size + 1)), (⟨[84, 84, 76], [], 118⟩, none), (⟨[80, 69, 82, 83, 73, 83, 84], [], 119⟩, none), (⟨[82, 69, 78, 65, 77, 69], [], 120⟩, none)] : List (Ru.Rl × Option Nat)).flatMap fun x => rlL 0 x.1 x.2).toArray → RlOut Ru.tabAny w (.returned (.slice (some ⟨w.heap.size + 2, 0, none⟩) 14 14)) (((w.alloc (.cells #[.int .i64 2] 3)).alloc (.cells #[.int .i64 2] 3)).alloc (.cells A 58))) := Lib.hid fun A hA => by
    subst hA
    have n0 : ∀ o : Obj, (((w.alloc (.cells #[.int .i64 2] 3)).alloc (.cells #[.int .i64 2] 3)).alloc o).heap[w.heap.size]? = some (.cells #[.int .i64 2] 3 (0, 0)) := fun o => by
      have := World.alloc_heap_new w (.cells #[.int .i64 2] 3)
      try simp only [World.size_alloc, Nat.add_assoc, Nat.reduceAdd] at this
      exact (((Keeps.refl (fun _ => True) _).alloc _).alloc _).heap this trivial
    have n1 : ∀ o : Obj, (((w.alloc (.cells #[.int .i64 2] 3)).alloc (.cells #[.int .i64 2] 3)).alloc o).heap[w.heap.size + 1]? = some (.cells #[.int .i64 2] 3 (0, 0)) := fun o => by
      have := World.alloc_heap_new (w.alloc (.cells #[.int .i64 2] 3)) (.cells #[.int .i64 2] 3)
      try simp only [World.size_alloc, Nat.add_assoc, Nat.reduceAdd] at this
      exact ((Keeps.refl (fun _ => True) _).alloc _).heap this trivial
    refine ⟨_, _, rfl, rfl, rlRow_of (rs := [(⟨[80, 73, 78, 71], [], 107⟩, none), (⟨[83, 69, 84], [], 108⟩, none), (⟨[83, 69, 84, 78, 88], [], 109⟩, none), (⟨[83, 69, 84, 69, 88], [2], 110⟩, some w.heap.size), (⟨[77, 71, 69, 84], [], 111⟩, none), (⟨[77, 83, 69, 84], [], 112⟩, none), (⟨[77, 83, 69, 84, 78, 88], [], 113⟩, none), (⟨[68, 69, 76], [], 114⟩, none), (⟨[69, 88, 73, 83, 84, 83], [], 115⟩, none), (⟨[84, 89, 80, 69], [], 116⟩, none), (⟨[69, 88, 80, 73, 82, 69], [2], 117⟩, some (w.heap.size + 1)), (⟨[84, 84, 76], [], 118⟩, none), (⟨[80, 69, 82, 83, 73, 83, 84], [], 119⟩, none), (⟨[82, 69, 78, 65, 77, 69], [], 120⟩, none)]) (by have := World.alloc_heap_new ((w.alloc (.cells #[.int .i64 2] 3)).alloc (.cells #[.int .i64 2] 3)) (.cells (([(⟨[80, 73, 78, 71], [], 107⟩, none), (⟨[83, 69, 84], [], 108⟩, none), (⟨[83, 69, 84, 78, 88], [], 109⟩, none), (⟨[83, 69, 84, 69, 88], [2], 110⟩, some w.heap.size), (⟨[77, 71, 69, 84], [], 111⟩, none), (⟨[77, 83, 69, 84], [], 112⟩, none), (⟨[77, 83, 69, 84, 78, 88], [], 113⟩, none), (⟨[68, 69, 76], [], 114⟩, none), (⟨[69, 88, 73, 83, 84, 83], [], 115⟩, none), (⟨[84, 89, 80, 69], [], 116⟩, none), (⟨[69, 88, 80, 73, 82, 69], [2], 117⟩, some (w.heap.size + 1)), (⟨[84, 84, 76], [], 118⟩, none), (⟨[80, 69, 82, 83, 73, 83, 84], [], 119⟩, none), (⟨[82, 69, 78, 65, 77, 69], [], 120⟩, none)] : List (Ru.Rl × Option Nat)).flatMap fun x => rlL 0 x.1 x.2).toArray 58); simpa [World.size_alloc] using this) ?_, ?_⟩
    · intro x hx
      simp only [List.mem_cons, List.not_mem_nil, or_false] at hx
      rcases hx with rfl | rfl | rfl | rfl | rfl | rfl | rfl | rfl | rfl | rfl | rfl | rfl | rfl | rfl <;> first | rfl | exact n0 _ | exact n1 _ | exact n2 _ | exact n3 _ | exact n4 _ | exact n5 _
    · refine ⟨(((Keeps.refl _ w).alloc _).alloc _).alloc _, by omega, ?_⟩
      intro x hx
      simp only [List.mem_cons, List.not_mem_nil, or_false] at hx
      rcases hx with rfl | rfl | rfl | rfl | rfl | rfl | rfl | rfl | rfl | rfl | rfl | rfl | rfl | rfl <;> (intro g hg; cases hg <;> omega)
  go_enter Tryz.func55, Tryz.ntmps55
  go_wp2
  go_ret
  exact HF.out _ (by kernel_rfl)
set_option maxRecDepth 100000 in
set_option maxHeartbeats 4000000 in
theorem rulesTexts_any (w : World) : Calls Tryz.prog 51 #[] w (RlOut Ru.tabTexts w) := by
  have HF : Hid (∀ A : Array Value, A = (([(⟨[71, 69, 84], [], 69⟩, none), (⟨[71, 69, 84, 83, 69, 84], [], 70⟩, none), (⟨[65, 80, 80, 69, 78, 68], [], 71⟩, none), (⟨[83, 84, 82, 76, 69, 78], [], 72⟩, none), (⟨[71, 69, 84, 82, 65, 78, 71, 69], [2, 3], 73⟩, some w.heap.size), (⟨[83, 69, 84, 82, 65, 78, 71, 69], [2], 74⟩, some (w.heap.size + 1)), (⟨[73, 78, 67, 82], [], 75⟩, none), (⟨[68, 69, 67, 82], [], 76⟩, none), (⟨[73, 78, 67, 82, 66, 89], [2], 77⟩, some (w.heap.size + 2)), (⟨[68, 69, 67, 82, 66, 89], [2], 78⟩, some (w.heap.size + 3))] : List (Ru.Rl × Option Nat)).flatMap fun x => rlL 0 x.1 x.2).toArray → RlOut Ru.tabTexts w (.returned (.slice (some ⟨w.heap.size + 4, 0, none⟩) 10 10)) (((((w.alloc (.cells #[.int .i64 2, .int .i64 3] 3)).alloc (.cells #[.int .i64 2] 3)).alloc (.cells #[.int .i64 2] 3)).alloc (.cells #[.int .i64 2] 3)).alloc (.cells A 58))) := Lib.hid fun A hA => by
    subst hA
    have n0 : ∀ o : Obj, (((((w.alloc (.cells #[.int .i64 2, .int .i64 3] 3)).alloc (.cells #[.int .i64 2] 3)).alloc (.cells #[.int .i64 2] 3)).alloc (.cells #[.int .i64 2] 3)).alloc o).heap[w.heap.size]? = some (.cells #[.int .i64 2, .int .i64 3] 3 (0, 0)) := fun o => by
      have := World.alloc_heap_new w (.cells #[.int .i64 2, .int .i64 3] 3)
      try simp only [World.size_alloc, Nat.add_assoc, Nat.reduceAdd] at this
      exact (((((Keeps.refl (fun _ => True) _).alloc _).alloc _).alloc _).alloc _).heap this trivial
    have n1 : ∀ o : Obj, (((((w.alloc (.cells #[.int .i64 2, .int .i64 3] 3)).alloc (.cells #[.int .i64 2] 3)).alloc (.cells #[.int .i64 2] 3)).alloc (.cells #[.int .i64 2] 3)).alloc o).heap[w.heap.size + 1]? = some (.cells #[.int .i64 2] 3 (0, 0)) := fun o => by
      have := World.alloc_heap_new (w.alloc (.cells #[.int .i64 2, .int .i64 3] 3)) (.cells #[.int .i64 2] 3)
      try simp only [World.size_alloc, Nat.add_assoc, Nat.reduceAdd] at this
      exact ((((Keeps.refl (fun _ => True) _).alloc _).alloc _).alloc _).heap this trivial
    have n2 : ∀ o : Obj, (((((w.alloc (.cells #[.int .i64 2, .int .i64 3] 3)).alloc (.cells #[.int .i64 2] 3)).alloc (.cells #[.int .i64 2] 3)).alloc (.cells #[.int .i64 2] 3)).alloc o).heap[w.heap.size + 2]? = some (.cells #[.int .i64 2] 3 (0, 0)) := fun o => by
      have := World.alloc_heap_new ((w.alloc (.cells #[.int .i64 2, .int .i64 3] 3)).alloc (.cells #[.int .i64 2] 3)) (.cells #[.int .i64 2] 3)
      try simp only [World.size_alloc, Nat.add_assoc, Nat.reduceAdd] at this
      exact (((Keeps.refl (fun _ => True) _).alloc _).alloc _).heap this trivial
    have n3 : ∀ o : Obj, (((((w.alloc (.cells #[.int .i64 2, .int .i64 3] 3)).alloc (.cells #[.int .i64 2] 3)).alloc (.cells #[.int .i64 2] 3)).alloc (.cells #[.int .i64 2] 3)).alloc o).heap[w.heap.size + 3]? = some (.cells #[.int .i64 2] 3 (0, 0)) := fun o => by
      have := World.alloc_heap_new (((w.alloc (.cells #[.int .i64 2, .int .i64 3] 3)).alloc (.cells #[.int .i64 2] 3)).alloc (.cells #[.int .i64 2] 3)) (.cells #[.int .i64 2] 3)
      try simp only [World.size_alloc, Nat.add_assoc, Nat.reduceAdd] at this
      exact ((Keeps.refl (fun _ => True) _).alloc _).heap this trivial
    refine ⟨_, _, rfl, rfl, rlRow_of (rs := [(⟨[71, 69, 84], [], 69⟩, none), (⟨[71, 69, 84, 83, 69, 84], [], 70⟩, none), (⟨[65, 80, 80, 69, 78, 68], [], 71⟩, none), (⟨[83, 84, 82, 76, 69, 78], [], 72⟩, none), (⟨[71, 69, 84, 82, 65, 78, 71, 69], [2, 3], 73⟩, some w.heap.size), (⟨[83, 69, 84, 82, 65, 78, 71, 69], [2], 74⟩, some (w.heap.size + 1)), (⟨[73, 78, 67, 82], [], 75⟩, none), (⟨[68, 69, 67, 82], [], 76⟩, none), (⟨[73, 78, 67, 82, 66, 89], [2], 77⟩, some (w.heap.size + 2)), (⟨[68, 69, 67, 82, 66, 89], [2], 78⟩, some (w.heap.size + 3))]) (by have := World.alloc_heap_new ((((w.alloc (.cells #[.int .i64 2, .int .i64 3] 3)).alloc (.cells #[.int .i64 2] 3)).alloc (.cells #[.int .i64 2] 3)).alloc (.cells #[.int .i64 2] 3)) (.cells (([(⟨[71, 69, 84], [], 69⟩, none), (⟨[71, 69, 84, 83, 69, 84], [], 70⟩, none), (⟨[65, 80, 80, 69, 78, 68], [], 71⟩, none), (⟨[83, 84, 82, 76, 69, 78], [], 72⟩, none), (⟨[71, 69, 84, 82, 65, 78, 71, 69], [2, 3], 73⟩, some w.heap.size), (⟨[83, 69, 84, 82, 65, 78, 71, 69], [2], 74⟩, some (w.heap.size + 1)), (⟨[73, 78, 67, 82], [], 75⟩, none), (⟨[68, 69, 67, 82], [], 76⟩, none), (⟨[73, 78, 67, 82, 66, 89], [2], 77⟩, some (w.heap.size + 2)), (⟨[68, 69, 67, 82, 66, 89], [2], 78⟩, some (w.heap.size + 3))] : List (Ru.Rl × Option Nat)).flatMap fun x => rlL 0 x.1 x.2).toArray 58); simpa [World.size_alloc] using this) ?_, ?_⟩
    · intro x hx
      simp only [List.mem_cons, List.not_mem_nil, or_false] at hx
      rcases hx with rfl | rfl | rfl | rfl | rfl | rfl | rfl | rfl | rfl | rfl <;> first | rfl | exact n0 _ | exact n1 _ | exact n2 _ | exact n3 _ | exact n4 _ | exact n5 _
    · refine ⟨(((((Keeps.refl _ w).alloc _).alloc _).alloc _).alloc _).alloc _, by omega, ?_⟩
      intro x hx
      simp only [List.mem_cons, List.not_mem_nil, or_false] at hx
      rcases hx with rfl | rfl | rfl | rfl | rfl | rfl | rfl | rfl | rfl | rfl <;> (intro g hg; cases hg <;> omega)
  go_enter Tryz.func51, Tryz.ntmps51
  go_wp2
  go_ret
  exact HF.out _ (by kernel_rfl)
set_option maxRecDepth 100000 in
set_option maxHeartbeats 4000000 in
theorem rulesHashes_any (w : World) : Calls Tryz.prog 52 #[] w (RlOut Ru.tabHashes w) := by
  have HF : Hid (∀ A : Array Value, A = (([(⟨[72, 83, 69, 84], [], 79⟩, none), (⟨[72, 71, 69, 84], [], 80⟩, none), (⟨[72, 68, 69, 76], [], 81⟩, none), (⟨[72, 76, 69, 78], [], 82⟩, none), (⟨[72, 69, 88, 73, 83, 84, 83], [], 83⟩, none), (⟨[72, 75, 69, 89, 83], [], 84⟩, none), (⟨[72, 86, 65, 76, 83], [], 85⟩, none), (⟨[72, 71, 69, 84, 65, 76, 76], [], 86⟩, none), (⟨[72, 73, 78, 67, 82, 66, 89], [3], 87⟩, some w.heap.size), (⟨[72, 77, 71, 69, 84], [], 88⟩, none)] : List (Ru.Rl × Option Nat)).flatMap fun x => rlL 0 x.1 x.2).toArray → RlOut Ru.tabHashes w (.returned (.slice (some ⟨w.heap.size + 1, 0, none⟩) 10 10)) ((w.alloc (.cells #[.int .i64 3] 3)).alloc (.cells A 58))) := Lib.hid fun A hA => by
    subst hA
    have n0 : ∀ o : Obj, ((w.alloc (.cells #[.int .i64 3] 3)).alloc o).heap[w.heap.size]? = some (.cells #[.int .i64 3] 3 (0, 0)) := fun o => by
      have := World.alloc_heap_new w (.cells #[.int .i64 3] 3)
      try simp only [World.size_alloc, Nat.add_assoc, Nat.reduceAdd] at this
      exact ((Keeps.refl (fun _ => True) _).alloc _).heap this trivial
    refine ⟨_, _, rfl, rfl, rlRow_of (rs := [(⟨[72, 83, 69, 84], [], 79⟩, none), (⟨[72, 71, 69, 84], [], 80⟩, none), (⟨[72, 68, 69, 76], [], 81⟩, none), (⟨[72, 76, 69, 78], [], 82⟩, none), (⟨[72, 69, 88, 73, 83, 84, 83], [], 83⟩, none), (⟨[72, 75, 69, 89, 83], [], 84⟩, none), (⟨[72, 86, 65, 76, 83], [], 85⟩, none), (⟨[72, 71, 69, 84, 65, 76, 76], [], 86⟩, none), (⟨[72, 73, 78, 67, 82, 66, 89], [3], 87⟩, some w.heap.size), (⟨[72, 77, 71, 69, 84], [], 88⟩, none)]) (by have := World.alloc_heap_new (w.alloc (.cells #[.int .i64 3] 3)) (.cells (([(⟨[72, 83, 69, 84], [], 79⟩, none), (⟨[72, 71, 69, 84], [], 80⟩, none), (⟨[72, 68, 69, 76], [], 81⟩, none), (⟨[72, 76, 69, 78], [], 82⟩, none), (⟨[72, 69, 88, 73, 83, 84, 83], [], 83⟩, none), (⟨[72, 75, 69, 89, 83], [], 84⟩, none), (⟨[72, 86, 65, 76, 83], [], 85⟩, none), (⟨[72, 71, 69, 84, 65, 76, 76], [], 86⟩, none), (⟨[72, 73, 78, 67, 82, 66, 89], [3], 87⟩, some w.heap.size), (⟨[72, 77, 71, 69, 84], [], 88⟩, none)] : List (Ru.Rl × Option Nat)).flatMap fun x => rlL 0 x.1 x.2).toArray 58); simpa [World.size_alloc] using this) ?_, ?_⟩
    · intro x hx
      simp only [List.mem_cons, List.not_mem_nil, or_false] at hx
      rcases hx with rfl | rfl | rfl | rfl | rfl | rfl | rfl | rfl | rfl | rfl <;> first | rfl | exact n0 _ | exact n1 _ | exact n2 _ | exact n3 _ | exact n4 _ | exact n5 _
    · refine ⟨((Keeps.refl _ w).alloc _).alloc _, by omega, ?_⟩
      intro x hx
      simp only [List.mem_cons, List.not_mem_nil, or_false] at hx
      rcases hx with rfl | rfl | rfl | rfl | rfl | rfl | rfl | rfl | rfl | rfl <;> (intro g hg; cases hg <;> omega)
  go_enter Tryz.func52, Tryz.ntmps52
  go_wp2
  go_ret
  exact HF.out _ (by kernel_rfl)
set_option maxRecDepth 100000 in
set_option maxHeartbeats 4000000 in
theorem rulesLists_any (w : World) : Calls Tryz.prog 53 #[] w (RlOut Ru.tabLists w) := by
  have HF : Hid (∀ A : Array Value, A = (([(⟨[76, 80, 85, 83, 72], [], 89⟩, none), (⟨[82, 80, 85, 83, 72], [], 90⟩, none), (⟨[76, 80, 79, 80], [], 91⟩, none), (⟨[82, 80, 79, 80], [], 92⟩, none), (⟨[76, 76, 69, 78], [], 93⟩, none), (⟨[76, 82, 65, 78, 71, 69], [2, 3], 94⟩, some w.heap.size), (⟨[76, 73, 78, 68, 69, 88], [2], 95⟩, some (w.heap.size + 1)), (⟨[76, 83, 69, 84], [2], 96⟩, some (w.heap.size + 2)), (⟨[76, 84, 82, 73, 77], [2, 3], 97⟩, some (w.heap.size + 3)), (⟨[76, 82, 69, 77], [2], 98⟩, some (w.heap.size + 4))] : List (Ru.Rl × Option Nat)).flatMap fun x => rlL 0 x.1 x.2).toArray → RlOut Ru.tabLists w (.returned (.slice (some ⟨w.heap.size + 5, 0, none⟩) 10 10)) ((((((w.alloc (.cells #[.int .i64 2, .int .i64 3] 3)).alloc (.cells #[.int .i64 2] 3)).alloc (.cells #[.int .i64 2] 3)).alloc (.cells #[.int .i64 2, .int .i64 3] 3)).alloc (.cells #[.int .i64 2] 3)).alloc (.cells A 58))) := Lib.hid fun A hA => by
    subst hA
    have n0 : ∀ o : Obj, ((((((w.alloc (.cells #[.int .i64 2, .int .i64 3] 3)).alloc (.cells #[.int .i64 2] 3)).alloc (.cells #[.int .i64 2] 3)).alloc (.cells #[.int .i64 2, .int .i64 3] 3)).alloc (.cells #[.int .i64 2] 3)).alloc o).heap[w.heap.size]? = some (.cells #[.int .i64 2, .int .i64 3] 3 (0, 0)) := fun o => by
      have := World.alloc_heap_new w (.cells #[.int .i64 2, .int .i64 3] 3)
      try simp only [World.size_alloc, Nat.add_assoc, Nat.reduceAdd] at this
      exact ((((((Keeps.refl (fun _ => True) _).alloc _).alloc _).alloc _).alloc _).alloc _).heap this trivial
    have n1 : ∀ o : Obj, ((((((w.alloc (.cells #[.int .i64 2, .int .i64 3] 3)).alloc (.cells #[.int .i64 2] 3)).alloc (.cells #[.int .i64 2] 3)).alloc (.cells #[.int .i64 2, .int .i64 3] 3)).alloc (.cells #[.int .i64 2] 3)).alloc o).heap[w.heap.size + 1]? = some (.cells #[.int .i64 2] 3 (0, 0)) := fun o => by
      have := World.alloc_heap_new (w.alloc (.cells #[.int .i64 2, .int .i64 3] 3)) (.cells #[.int .i64 2] 3)
      try simp only [World.size_alloc, Nat.add_assoc, Nat.reduceAdd] at this
      exact (((((Keeps.refl (fun _ => True) _).alloc _).alloc _).alloc _).alloc _).heap this trivial
    have n2 : ∀ o : Obj, ((((((w.alloc (.cells #[.int .i64 2, .int .i64 3] 3)).alloc (.cells #[.int .i64 2] 3)).alloc (.cells #[.int .i64 2] 3)).alloc (.cells #[.int .i64 2, .int .i64 3] 3)).alloc (.cells #[.int .i64 2] 3)).alloc o).heap[w.heap.size + 2]? = some (.cells #[.int .i64 2] 3 (0, 0)) := fun o => by
      have := World.alloc_heap_new ((w.alloc (.cells #[.int .i64 2, .int .i64 3] 3)).alloc (.cells #[.int .i64 2] 3)) (.cells #[.int .i64 2] 3)
      try simp only [World.size_alloc, Nat.add_assoc, Nat.reduceAdd] at this
      exact ((((Keeps.refl (fun _ => True) _).alloc _).alloc _).alloc _).heap this trivial
    have n3 : ∀ o : Obj, ((((((w.alloc (.cells #[.int .i64 2, .int .i64 3] 3)).alloc (.cells #[.int .i64 2] 3)).alloc (.cells #[.int .i64 2] 3)).alloc (.cells #[.int .i64 2, .int .i64 3] 3)).alloc (.cells #[.int .i64 2] 3)).alloc o).heap[w.heap.size + 3]? = some (.cells #[.int .i64 2, .int .i64 3] 3 (0, 0)) := fun o => by
      have := World.alloc_heap_new (((w.alloc (.cells #[.int .i64 2, .int .i64 3] 3)).alloc (.cells #[.int .i64 2] 3)).alloc (.cells #[.int .i64 2] 3)) (.cells #[.int .i64 2, .int .i64 3] 3)
      try simp only [World.size_alloc, Nat.add_assoc, Nat.reduceAdd] at this
      exact (((Keeps.refl (fun _ => True) _).alloc _).alloc _).heap this trivial
    have n4 : ∀ o : Obj, ((((((w.alloc (.cells #[.int .i64 2, .int .i64 3] 3)).alloc (.cells #[.int .i64 2] 3)).alloc (.cells #[.int .i64 2] 3)).alloc (.cells #[.int .i64 2, .int .i64 3] 3)).alloc (.cells #[.int .i64 2] 3)).alloc o).heap[w.heap.size + 4]? = some (.cells #[.int .i64 2] 3 (0, 0)) := fun o => by
      have := World.alloc_heap_new ((((w.alloc (.cells #[.int .i64 2, .int .i64 3] 3)).alloc (.cells #[.int .i64 2] 3)).alloc (.cells #[.int .i64 2] 3)).alloc (.cells #[.int .i64 2, .int .i64 3] 3)) (.cells #[.int .i64 2] 3)
      try simp only [World.size_alloc, Nat.add_assoc, Nat.reduceAdd] at this
      exact ((Keeps.refl (fun _ => True) _).alloc _).heap this trivial
    refine ⟨_, _, rfl, rfl, rlRow_of (rs := [(⟨[76, 80, 85, 83, 72], [], 89⟩, none), (⟨[82, 80, 85, 83, 72], [], 90⟩, none), (⟨[76, 80, 79, 80], [], 91⟩, none), (⟨[82, 80, 79, 80], [], 92⟩, none), (⟨[76, 76, 69, 78], [], 93⟩, none), (⟨[76, 82, 65, 78, 71, 69], [2, 3], 94⟩, some w.heap.size), (⟨[76, 73, 78, 68, 69, 88], [2], 95⟩, some (w.heap.size + 1)), (⟨[76, 83, 69, 84], [2], 96⟩, some (w.heap.size + 2)), (⟨[76, 84, 82, 73, 77], [2, 3], 97⟩, some (w.heap.size + 3)), (⟨[76, 82, 69, 77], [2], 98⟩, some (w.heap.size + 4))]) (by have := World.alloc_heap_new (((((w.alloc (.cells #[.int .i64 2, .int .i64 3] 3)).alloc (.cells #[.int .i64 2] 3)).alloc (.cells #[.int .i64 2] 3)).alloc (.cells #[.int .i64 2, .int .i64 3] 3)).alloc (.cells #[.int .i64 2] 3)) (.cells (([(⟨[76, 80, 85, 83, 72], [], 89⟩, none), (⟨[82, 80, 85, 83, 72], [], 90⟩, none), (⟨[76, 80, 79, 80], [], 91⟩, none), (⟨[82, 80, 79, 80], [], 92⟩, none), (⟨[76, 76, 69, 78], [], 93⟩, none), (⟨[76, 82, 65, 78, 71, 69], [2, 3], 94⟩, some w.heap.size), (⟨[76, 73, 78, 68, 69, 88], [2], 95⟩, some (w.heap.size + 1)), (⟨[76, 83, 69, 84], [2], 96⟩, some (w.heap.size + 2)), (⟨[76, 84, 82, 73, 77], [2, 3], 97⟩, some (w.heap.size + 3)), (⟨[76, 82, 69, 77], [2], 98⟩, some (w.heap.size + 4))] : List (Ru.Rl × Option Nat)).flatMap fun x => rlL 0 x.1 x.2).toArray 58); simpa [World.size_alloc] using this) ?_, ?_⟩
    · intro x hx
      simp only [List.mem_cons, List.not_mem_nil, or_false] at hx
      rcases hx with rfl | rfl | rfl | rfl | rfl | rfl | rfl | rfl | rfl | rfl <;> first | rfl | exact n0 _ | exact n1 _ | exact n2 _ | exact n3 _ | exact n4 _ | exact n5 _
    · refine ⟨((((((Keeps.refl _ w).alloc _).alloc _).alloc _).alloc _).alloc _).alloc _, by omega, ?_⟩
      intro x hx
      simp only [List.mem_cons, List.not_mem_nil, or_false] at hx
      rcases hx with rfl | rfl | rfl | rfl | rfl | rfl | rfl | rfl | rfl | rfl <;> (intro g hg; cases hg <;> omega)
  go_enter Tryz.func53, Tryz.ntmps53
  go_wp2
  go_ret
  exact HF.out _ (by kernel_rfl)
set_option maxRecDepth 100000 in
set_option maxHeartbeats 4000000 in
theorem rulesSets_any (w : World) : Calls Tryz.prog 54 #[] w (RlOut Ru.tabSets w) := by
  have HF : Hid (∀ A : Array Value, A = (([(⟨[83, 65, 68, 68], [], 99⟩, none), (⟨[83, 82, 69, 77], [], 100⟩, none), (⟨[83, 67, 65, 82, 68], [], 93⟩, none), (⟨[83, 73, 83, 77, 69, 77, 66, 69, 82], [], 101⟩, none), (⟨[83, 77, 69, 77, 66, 69, 82, 83], [], 102⟩, none), (⟨[83, 80, 79, 80], [], 91⟩, none), (⟨[83, 77, 79, 86, 69], [], 103⟩, none), (⟨[83, 73, 78, 84, 69, 82], [], 104⟩, none), (⟨[83, 85, 78, 73, 79, 78], [], 105⟩, none), (⟨[83, 68, 73, 70, 70], [], 106⟩, none)] : List (Ru.Rl × Option Nat)).flatMap fun x => rlL 0 x.1 x.2).toArray → RlOut Ru.tabSets w (.returned (.slice (some ⟨w.heap.size, 0, none⟩) 10 10)) (w.alloc (.cells A 58))) := Lib.hid fun A hA => by
    subst hA

    refine ⟨_, _, rfl, rfl, rlRow_of (rs := [(⟨[83, 65, 68, 68], [], 99⟩, none), (⟨[83, 82, 69, 77], [], 100⟩, none), (⟨[83, 67, 65, 82, 68], [], 93⟩, none), (⟨[83, 73, 83, 77, 69, 77, 66, 69, 82], [], 101⟩, none), (⟨[83, 77, 69, 77, 66, 69, 82, 83], [], 102⟩, none), (⟨[83, 80, 79, 80], [], 91⟩, none), (⟨[83, 77, 79, 86, 69], [], 103⟩, none), (⟨[83, 73, 78, 84, 69, 82], [], 104⟩, none), (⟨[83, 85, 78, 73, 79, 78], [], 105⟩, none), (⟨[83, 68, 73, 70, 70], [], 106⟩, none)]) (by have := World.alloc_heap_new w (.cells (([(⟨[83, 65, 68, 68], [], 99⟩, none), (⟨[83, 82, 69, 77], [], 100⟩, none), (⟨[83, 67, 65, 82, 68], [], 93⟩, none), (⟨[83, 73, 83, 77, 69, 77, 66, 69, 82], [], 101⟩, none), (⟨[83, 77, 69, 77, 66, 69, 82, 83], [], 102⟩, none), (⟨[83, 80, 79, 80], [], 91⟩, none), (⟨[83, 77, 79, 86, 69], [], 103⟩, none), (⟨[83, 73, 78, 84, 69, 82], [], 104⟩, none), (⟨[83, 85, 78, 73, 79, 78], [], 105⟩, none), (⟨[83, 68, 73, 70, 70], [], 106⟩, none)] : List (Ru.Rl × Option Nat)).flatMap fun x => rlL 0 x.1 x.2).toArray 58); simpa [World.size_alloc] using this) ?_, ?_⟩
    · intro x hx
      simp only [List.mem_cons, List.not_mem_nil, or_false] at hx
      rcases hx with rfl | rfl | rfl | rfl | rfl | rfl | rfl | rfl | rfl | rfl <;> first | rfl | exact n0 _ | exact n1 _ | exact n2 _ | exact n3 _ | exact n4 _ | exact n5 _
    · refine ⟨(Keeps.refl _ w).alloc _, by omega, ?_⟩
      intro x hx
      simp only [List.mem_cons, List.not_mem_nil, or_false] at hx
      rcases hx with rfl | rfl | rfl | rfl | rfl | rfl | rfl | rfl | rfl | rfl <;> (intro g hg; cases hg <;> omega)
  go_enter Tryz.func54, Tryz.ntmps54
  go_wp2
  go_ret
  exact HF.out _ (by kernel_rfl)
end Go.Proofs.YtokcbcjonbjkgaaGreatDoor
