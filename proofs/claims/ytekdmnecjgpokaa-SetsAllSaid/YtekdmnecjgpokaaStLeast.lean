/- The contract of sets.least. -/
import Derived.Test.YtekdmnecjgpokaaStBase
import Derived.Sort.Walk0
import Derived.LoopTactic
import Derived.Deep.QuietTactic
import Derived.BigQuiet
namespace Go.Proofs.Ytekdmnecjgpokaa
open Go.RowKit Go.Shelf
set_option linter.unusedVariables false
set_option linter.unusedSimpArgs false

theorem results_tmpcell {fn : Func} {t u : Tmp} {T : TypeId} (h : fn.results = #[.tmp u, .cell t T]) {tmps : Array Value} {P : Program} {w : World} {p : Addr} {v : Value} (hp : tmps.getD t undef = .pointer (some p)) (hl : (loadVar T p).run P w = .ok v w) :
    (results fn tmps).run P w = .ok (.tuple #[tmps.getD u undef, v]) w := by
  have hp' : tmps[t]?.getD undef = .pointer (some p) := by simpa using hp
  simp [results, h, hp', hl, asAddr]
/-- the sides of an element, in a block. -/
def SdBox (w : World) (B : Nat) (p q : Bool) : Prop := w.heap[B]? = some (.cells #[.bool p, .bool q] 49 (0, 0))
theorem SdBox.new (w : World) (p q : Bool) : SdBox (w.alloc (.cells #[.bool p, .bool q] 49)) w.heap.size p q := World.alloc_heap_new w _
theorem SdBox.at {w : World} {B : Nat} {p q : Bool} (h : SdBox w B p q) : w.cell? ⟨B, 0, none⟩ = some (.bool p) ∧ w.cell? ⟨B, 1, none⟩ = some (.bool q) ∧ w.frozen? ⟨B, 0, none⟩ = false ∧ w.frozen? ⟨B, 1, none⟩ = false := by
  unfold SdBox at h
  simp [World.cell?, World.frozen?, h]
theorem SdBox.lt {w : World} {B : Nat} {p q : Bool} (h : SdBox w B p q) : B < w.heap.size := (Array.getElem?_eq_some_iff.1 h).1
theorem SdBox.keep {S : Nat → Prop} {w w' : World} {B : Nat} {p q : Bool} (h : SdBox w B p q) (hk : Keeps S w w') (hS : S B) : SdBox w' B p q := hk.heap h hS
theorem SdBox.store {w : World} {B : Nat} {p q : Bool} (h : SdBox w B p q) (p' q' : Bool) : SdBox ((w.setCell ⟨B, 0, none⟩ (.bool p')).setCell ⟨B, 1, none⟩ (.bool q')) B p' q' := by
  unfold SdBox at h ⊢
  simp [World.setCell, Array.getElem?_modify, h]
theorem loadSides {w : World} {B : Nat} {p q : Bool} (h : SdBox w B p q) : (loadVar 49 ⟨B, 0, none⟩).run Try.prog w = .ok (.agg #[.bool p, .bool q]) w := by
  obtain ⟨h0, h1, _, _⟩ := h.at
  simp [loadVar, go_sem, h0, h1]

/-- what least tells. -/
def LeastOut (w : World) (x : St.Bs) (p q : Bool) (e : Ending) (w' : World) : Prop := e = .returned (.tuple #[.string ⟨x.toArray⟩, .agg #[.bool p, .bool q]]) ∧ Below w.heap.size w w'

theorem least_world (w : World) (n : Nat) (p q : Bool) : SdBox ((((w.alloc (.cells #[.bool false, .bool false] 49)).drewN n).setCell ⟨w.heap.size, 0, none⟩ (.bool p)).setCell ⟨w.heap.size, 1, none⟩ (.bool q)) w.heap.size p q ∧
    Below w.heap.size w ((((w.alloc (.cells #[.bool false, .bool false] 49)).drewN n).setCell ⟨w.heap.size, 0, none⟩ (.bool p)).setCell ⟨w.heap.size, 1, none⟩ (.bool q)) := by
  have h0 : SdBox ((w.alloc (.cells #[.bool false, .bool false] 49)).drewN n) w.heap.size false false := SdBox.new w false false
  exact ⟨h0.store p q, ((below_drewN ((Below.refl _ w).alloc (Nat.le_refl _) _) n).setCell (p := ⟨w.heap.size, 0, none⟩) (Nat.le_refl _) _).setCell (p := ⟨w.heap.size, 1, none⟩) (Nat.le_refl _) _⟩

set_option maxRecDepth 100000 in
set_option maxHeartbeats 4000000 in
theorem least_left (ba oa n ca : Nat) (b : Option Addr) (cb : Nat) (x : St.Bs) (w : World) (hn : 0 < n) (hn2 : n ≤ 1000000) (hx : w.cell? ⟨ba, oa, none⟩ = some (.string ⟨x.toArray⟩)) :
    Calls Try.prog 46 #[.slice (some ⟨ba, oa, none⟩) n ca, .slice b 0 cb] w (LeastOut w x true false) := by
  have n1 : (0 : Int) < (n : Int) := by omega
  have hbl := World.block_lt_of_cell? w _ hx
  simp only at hbl
  go_enter Try.func46, Try.ntmps46
  go_wp2
  go_quiet (fail)
  go_wp2
  exact bodyPost_ret (results_tmpcell rfl rfl (loadSides (least_world w _ true false).1)) rfl ⟨rfl, (least_world w _ true false).2⟩

set_option maxRecDepth 100000 in
set_option maxHeartbeats 4000000 in
theorem least_right (bb ob m cb : Nat) (a : Option Addr) (ca : Nat) (y : St.Bs) (w : World) (hm : 0 < m) (hm2 : m ≤ 1000000) (hy : w.cell? ⟨bb, ob, none⟩ = some (.string ⟨y.toArray⟩)) :
    Calls Try.prog 46 #[.slice a 0 ca, .slice (some ⟨bb, ob, none⟩) m cb] w (LeastOut w y false true) := by
  have n1 : (0 : Int) < (m : Int) := by omega
  have n2 : ¬ m = 0 := by omega
  have n3 : decide (m = 0) = false := by simpa using n2
  have hbl := World.block_lt_of_cell? w _ hy
  simp only at hbl
  go_enter Try.func46, Try.ntmps46
  go_wp2
  go_quiet (fail)
  go_wp2
  go_quiet (fail)
  go_wp2
  exact bodyPost_ret (results_tmpcell rfl rfl (loadSides (least_world w _ false true).1)) rfl ⟨rfl, (least_world w _ false true).2⟩

set_option maxRecDepth 100000 in
set_option maxHeartbeats 4000000 in
theorem least_lt (ba oa n ca bb ob m cb : Nat) (x y : St.Bs) (w : World) (hn : 0 < n) (hn2 : n ≤ 1000000) (hm : 0 < m) (hm2 : m ≤ 1000000) (hx : w.cell? ⟨ba, oa, none⟩ = some (.string ⟨x.toArray⟩)) (hy : w.cell? ⟨bb, ob, none⟩ = some (.string ⟨y.toArray⟩)) (h : x < y) :
    Calls Try.prog 46 #[.slice (some ⟨ba, oa, none⟩) n ca, .slice (some ⟨bb, ob, none⟩) m cb] w (LeastOut w x true false) := by
  have n1 : (0 : Int) < (m : Int) := by omega
  have n2 : ¬ m = 0 := by omega
  have n3 : decide (m = 0) = false := by simpa using n2
  have m1 : (0 : Int) < (n : Int) := by omega
  have m2 : ¬ n = 0 := by omega
  have m3 : decide (n = 0) = false := by simpa using m2
  have e1 : Op.bytesLess x y = true := by rw [bytesLess_eq, decide_eq_true h]
  have hbx := World.block_lt_of_cell? w _ hx
  have hby := World.block_lt_of_cell? w _ hy
  simp only at hbx hby
  clear h
  go_enter Try.func46, Try.ntmps46
  go_wp2
  go_quiet (fail)
  go_wp2
  exact bodyPost_ret (results_tmpcell rfl rfl (loadSides (least_world w _ true false).1)) rfl ⟨rfl, (least_world w _ true false).2⟩

set_option maxRecDepth 100000 in
set_option maxHeartbeats 4000000 in
theorem least_gt (ba oa n ca bb ob m cb : Nat) (x y : St.Bs) (w : World) (hn : 0 < n) (hn2 : n ≤ 1000000) (hm : 0 < m) (hm2 : m ≤ 1000000) (hx : w.cell? ⟨ba, oa, none⟩ = some (.string ⟨x.toArray⟩)) (hy : w.cell? ⟨bb, ob, none⟩ = some (.string ⟨y.toArray⟩)) (h : y < x) :
    Calls Try.prog 46 #[.slice (some ⟨ba, oa, none⟩) n ca, .slice (some ⟨bb, ob, none⟩) m cb] w (LeastOut w y false true) := by
  have n1 : (0 : Int) < (m : Int) := by omega
  have n2 : ¬ m = 0 := by omega
  have n3 : decide (m = 0) = false := by simpa using n2
  have m1 : (0 : Int) < (n : Int) := by omega
  have m2 : ¬ n = 0 := by omega
  have m3 : decide (n = 0) = false := by simpa using m2
  have e1 : Op.bytesLess x y = false := by rw [bytesLess_eq, decide_eq_false (fun h' => List.lt_irrefl _ (Mk.lt_tr h h'))]
  have e2 : Op.bytesLess y x = true := by rw [bytesLess_eq, decide_eq_true h]
  have hbx := World.block_lt_of_cell? w _ hx
  have hby := World.block_lt_of_cell? w _ hy
  simp only at hbx hby
  clear h
  go_enter Try.func46, Try.ntmps46
  go_wp2
  go_quiet (fail)
  go_wp2
  go_quiet (fail)
  go_wp2
  exact bodyPost_ret (results_tmpcell rfl rfl (loadSides (least_world w _ false true).1)) rfl ⟨rfl, (least_world w _ false true).2⟩

set_option maxRecDepth 100000 in
set_option maxHeartbeats 4000000 in
theorem least_eq (ba oa n ca bb ob m cb : Nat) (x : St.Bs) (w : World) (hn : 0 < n) (hn2 : n ≤ 1000000) (hm : 0 < m) (hm2 : m ≤ 1000000) (hx : w.cell? ⟨ba, oa, none⟩ = some (.string ⟨x.toArray⟩)) (hy : w.cell? ⟨bb, ob, none⟩ = some (.string ⟨x.toArray⟩)) :
    Calls Try.prog 46 #[.slice (some ⟨ba, oa, none⟩) n ca, .slice (some ⟨bb, ob, none⟩) m cb] w (LeastOut w x true true) := by
  have n1 : (0 : Int) < (m : Int) := by omega
  have n2 : ¬ m = 0 := by omega
  have n3 : decide (m = 0) = false := by simpa using n2
  have m1 : (0 : Int) < (n : Int) := by omega
  have m2 : ¬ n = 0 := by omega
  have m3 : decide (n = 0) = false := by simpa using m2
  have e1 : Op.bytesLess x x = false := by rw [bytesLess_eq, decide_eq_false (List.lt_irrefl _)]
  have hbx := World.block_lt_of_cell? w _ hx
  have hby := World.block_lt_of_cell? w _ hy
  simp only at hbx hby
  go_enter Try.func46, Try.ntmps46
  go_wp2
  go_quiet (fail)
  go_wp2
  go_quiet (fail)
  go_wp2
  exact bodyPost_ret (results_tmpcell rfl rfl (loadSides (least_world w _ true true).1)) rfl ⟨rfl, (least_world w _ true true).2⟩
end Go.Proofs.Ytekdmnecjgpokaa
