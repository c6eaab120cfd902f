/- What is told of words and of rows of the table in memory. -/
import Derived.Test.YtokcbcjonbjkgaaGreatDoorWds
import Derived.Test.YtokcbcjonbjkgaaGreatDoorProg
import Derived.Test.YtokcbcjonbjkgaaGreatDoorSeq
import Derived.Test.YtokcbcjonbjkgaaGreatDoorCmPlain
import Derived.Shelf.Abstract
import Derived.WalkKit
import Derived.WalkLawsBesides
import Derived.WalkSpells
import Derived.OwnWalkIn
import Derived.TacticsInMore
import Derived.LoopNIn
import Derived.LoopIn
import Derived.Lib.Hide
import Derived.Outline
import Derived.Below
import Derived.IntWalk
import Derived.Deep.QuietTactic
import Derived.BigQuiet
import Derived.Laws.IdiomStrings
namespace Go.Proofs.YtokcbcjonbjkgaaGreatDoor
open Go.RowKit Go.Shelf
attribute [local go_sem] Oper.semAt_some

/-- a row of the table as a value. -/
def spV (s : Cm.Sp) : Value := .agg #[.string ⟨s.nm.toArray⟩, .int .i64 s.least, .int .i64 s.most, .int .i64 s.first, .int .i64 s.last, .int .i64 s.step, .bool s.wr]
def spL (s : Cm.Sp) : List Value := [.string ⟨s.nm.toArray⟩, .int .i64 s.least, .int .i64 s.most, .int .i64 s.first, .int .i64 s.last, .int .i64 s.step, .bool s.wr]

/-- .. in a block of its own. -/
def SpBox (w : World) (B : Nat) (s : Cm.Sp) : Prop := w.heap[B]? = some (.cells (spL s).toArray 76 (0, 0))

/-- a row's cells. -/
def SpAt (w : World) (B o : Nat) (s : Cm.Sp) : Prop :=
  w.cell? ⟨B, o, none⟩ = some (.string ⟨s.nm.toArray⟩) ∧ w.cell? ⟨B, o + 1, none⟩ = some (.int .i64 s.least) ∧ w.cell? ⟨B, o + 2, none⟩ = some (.int .i64 s.most) ∧ w.cell? ⟨B, o + 3, none⟩ = some (.int .i64 s.first) ∧
    w.cell? ⟨B, o + 4, none⟩ = some (.int .i64 s.last) ∧ w.cell? ⟨B, o + 5, none⟩ = some (.int .i64 s.step) ∧ w.cell? ⟨B, o + 6, none⟩ = some (.bool s.wr)

theorem SpBox.at {w : World} {B : Nat} {s : Cm.Sp} (h : SpBox w B s) : SpAt w B 0 s := by
  unfold SpBox at h
  simp [SpAt, World.cell?, h, spL]

theorem SpBox.lt {w : World} {B : Nat} {s : Cm.Sp} (h : SpBox w B s) : B < w.heap.size := (Array.getElem?_eq_some_iff.1 h).1
theorem SpBox.free {w : World} {B : Nat} {s : Cm.Sp} (h : SpBox w B s) (o : Nat) (ho : o < 7) : w.frozen? ⟨B, o, none⟩ = false := by
  unfold SpBox at h
  match o, ho with
  | 0, _ => simp [World.frozen?, h, spL]
  | 1, _ => simp [World.frozen?, h, spL]
  | 2, _ => simp [World.frozen?, h, spL]
  | 3, _ => simp [World.frozen?, h, spL]
  | 4, _ => simp [World.frozen?, h, spL]
  | 5, _ => simp [World.frozen?, h, spL]
  | 6, _ => simp [World.frozen?, h, spL]

theorem SpAt.keep {w w' : World} {B o : Nat} {s : Cm.Sp} (h : SpAt w B o s) (hk : ∀ j, w'.cell? ⟨B, j, none⟩ = w.cell? ⟨B, j, none⟩) : SpAt w' B o s := by
  unfold SpAt at h ⊢
  simp only [hk]
  exact h

theorem loadVar26 (w : World) (b : Nat) (s : Cm.Sp) (h : SpAt w b 0 s) : (loadVar 76 ⟨b, 0, none⟩).run Tryz.prog w = .ok (spV s) w := by
  obtain ⟨h0, h1, h2, h3, h4, h5, h6⟩ := h
  simp at h0 h1 h2 h3 h4 h5 h6
  simp [loadVar, go_sem, h0, h1, h2, h3, h4, h5, h6, spV]

theorem loadVar4 (w : World) (p : Addr) (v : Value) (h : w.cell? p = some v) : (loadVar 4 p).run Tryz.prog w = .ok v w := by
  simp [loadVar, go_sem, h]

set_option maxHeartbeats 1000000 in
theorem capital_any (c : UInt8) (w : World) : Calls Tryz.prog 49 #[.int .u8 (c.toNat : Int)] w fun e w' => e = .returned (.int .u8 ((Cm.cap c).toNat : Int)) ∧ w = w' := by
  have hc : (c.toNat : Int) ≤ 255 := by have := c.toNat_lt; omega
  have hc0 : (0 : Int) ≤ c.toNat := by omega
  by_cases h : 97 ≤ (c.toNat : Int) ∧ (c.toNat : Int) ≤ 122
  · obtain ⟨h1, h2⟩ := h
    have he : Hid (((Cm.cap c).toNat : Int) = (c.toNat : Int) - 97 + 65) := Lib.hid (by
      unfold Cm.cap
      rw [if_pos ⟨by rw [UInt8.le_iff_toNat_le]; simp; omega, by rw [UInt8.le_iff_toNat_le]; simp; omega⟩]
      rw [UInt8.toNat_sub_of_le _ _ (by rw [UInt8.le_iff_toNat_le]; simp; omega)]
      simp
      omega)
    generalize (c.toNat : Int) = x at *
    go_enter Tryz.func49, Tryz.ntmps49
    go_wp2
    go_ret
    exact ⟨by rw [he.out]; rfl, rfl⟩
  · have he : Hid (((Cm.cap c).toNat : Int) = (c.toNat : Int)) := Lib.hid (by
      unfold Cm.cap
      rw [if_neg]
      rintro ⟨g1, g2⟩
      rw [UInt8.le_iff_toNat_le] at g1 g2
      simp at g1 g2
      omega)
    generalize (c.toNat : Int) = x at *
    by_cases h1 : 97 ≤ x
    · have h2 : 122 < x := by omega
      clear h
      go_enter Tryz.func49, Tryz.ntmps49
      go_wp2
      go_ret
      exact ⟨by rw [he.out]; rfl, rfl⟩
    · have h2 : x < 97 := by omega
      clear h h1
      go_enter Tryz.func49, Tryz.ntmps49
      go_wp2
      go_ret
      exact ⟨by rw [he.out]; rfl, rfl⟩

end Go.Proofs.YtokcbcjonbjkgaaGreatDoor
