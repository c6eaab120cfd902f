/- Small facts that the walks of stage 6 share. -/
import Derived.Test.YtdhcgclchdnmfaaDoorTxPlain
import Derived.Test.YtdhcgclchdnmfaaDoorProg
import Derived.RangeFuncRecord
import Derived.Shelf.Abstract
import Derived.OwnWalkIn
import Derived.LoopNIn
import Derived.Maps.OwnIn
import Derived.WalkKit
import Derived.WalkLawsBesides
import Derived.WalkSpells
import Derived.TacticsInMore
import Derived.Lib.Hide
import Derived.Outline
import Derived.Below
import Derived.IntWalk
import Derived.BigQuiet
import Derived.Laws.IdiomStrings
import Derived.Deep.DeepFit
import Derived.Deep.DeepCutAuto
import Derived.LoopTactic
namespace Go.Proofs.YtdhcgclchdnmfaaDoor
open Go.RowKit Go.Shelf
set_option linter.unusedVariables false
set_option linter.unusedSimpArgs false

theorem results_cellT {fn : Func} {t : Tmp} {T : TypeId} (h : fn.results = #[.cell t T]) {tmps : Array Value} {P : Program} {w : World} {p : Addr} {v : Value} (hp : tmps.getD t undef = .pointer (some p)) (hl : (loadVar T p).run P w = .ok v w) :
    (results fn tmps).run P w = .ok v w := by
  have hp' : tmps[t]?.getD undef = .pointer (some p) := by simpa using hp
  simp [results, h, hp', hl, asAddr]
theorem idx_at (l : List UInt8) (k : Nat) (h : k < l.length) (W : World) : (Instr.index 9 (.string ⟨l.toArray⟩) (.int .i64 (k : Int))).run Tryd.prog W = .ok (.int .u8 ((l.getD k 0).toNat : Int)) W := by
  have hs : (⟨l.toArray⟩ : ByteArray).size = l.length := by simp [ByteArray.size]
  have e : l.getD k 0 = l[k] := by simp [List.getD, h]
  rw [run_index_string W 9 ⟨l.toArray⟩ .i64 (k : Int) Tryd.underlying9, dif_pos ⟨by omega, by rw [hs]; omega⟩, e]
  rfl
/-- two cells in a block. -/
def Box2 (w : World) (B : Nat) (T : TypeId) (x y : Value) : Prop := w.heap[B]? = some (.cells #[x, y] T (0, 0))
theorem Box2.new (w : World) (T : TypeId) (x y : Value) : Box2 (w.alloc (.cells #[x, y] T)) w.heap.size T x y := World.alloc_heap_new w _
theorem Box2.at {w : World} {B : Nat} {T : TypeId} {x y : Value} (h : Box2 w B T x y) : w.cell? ⟨B, 0, none⟩ = some x ∧ w.cell? ⟨B, 1, none⟩ = some y ∧ w.frozen? ⟨B, 0, none⟩ = false ∧ w.frozen? ⟨B, 1, none⟩ = false := by
  unfold Box2 at h
  refine ⟨?_, ?_, ?_, ?_⟩ <;> simp [World.cell?, World.frozen?, h]
theorem Box2.later {w w' : World} {B : Nat} {T : TypeId} {x y : Value} (h : Box2 w B T x y) (hb : Below w.heap.size w w') : Box2 w' B T x y := (hb.block B (Array.getElem?_eq_some_iff.1 h).1).trans h
theorem Box2.store {w : World} {B : Nat} {T : TypeId} {x y : Value} (h : Box2 w B T x y) (x' y' : Value) : Box2 ((w.setCell ⟨B, 0, none⟩ x').setCell ⟨B, 1, none⟩ y') B T x' y' := by
  unfold Box2 at h ⊢
  simp [World.setCell, Array.getElem?_modify, h]
theorem byte_bd (b : UInt8) : 0 ≤ (b.toNat : Int) ∧ (b.toNat : Int) ≤ 255 := by
  have := UInt8.toNat_lt b
  omega
theorem bool_eq {c : UInt8} : (c == 45) = true ↔ c.toNat = 45 := by
  rw [beq_iff_eq]
  constructor
  · rintro rfl; rfl
  · intro h; exact UInt8.toNat_inj.1 h
theorem natI {n : Nat} (h : (n : Int) = 45) : n = 45 := by omega
theorem isD_iff {c : UInt8} {y : Int} (h : (c.toNat : Int) = y) : Tx.isD c = (decide (48 ≤ y) && decide (y ≤ 57)) := by
  unfold Tx.isD
  rw [Bool.eq_iff_iff]
  simp only [Bool.and_eq_true, decide_eq_true_eq]
  omega

/-- a piece of a string. -/
theorem sub_str (s : List UInt8) (i k : Nat) (hi : i ≤ k) (hk : k ≤ s.length) : (⟨s.toArray⟩ : ByteArray).extract i k = ⟨((s.take k).drop i).toArray⟩ := by
  apply ByteArray.ext
  simp [List.extract_eq_take_drop, List.take_drop]
  rw [show i + (k - i) = k by omega]

end Go.Proofs.YtdhcgclchdnmfaaDoor
