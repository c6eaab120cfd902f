/- A reply as a tree: its value, in memory. -/
import Derived.Test.YtokcbcjonbjkgaaGreatDoorWds
import Derived.Test.YtokcbcjonbjkgaaGreatDoorProg
import Derived.Test.YtokcbcjonbjkgaaGreatDoorRpPlain
import Derived.Shelf.Abstract
import Derived.WalkKit
import Derived.OwnWalkIn
import Derived.TacticsInMore
import Derived.LoopNIn
import Derived.LoopIn
import Derived.Lib.Hide
import Derived.Outline
import Derived.WalkSpells
import Derived.Maps.OwnIn
import Derived.IntWalk
namespace Go.Proofs.YtokcbcjonbjkgaaGreatDoor
open Go.RowKit Go.Shelf
attribute [local go_sem] Oper.semAt_some

/-- a reply's value. -/
def rv (k : Int) (s : List UInt8) (n : Int) (a : Option Addr) (m cap : Nat) : Value := .agg #[.int .i64 k, .string ⟨s.toArray⟩, .int .i64 n, .slice a m cap]

/-- numbers and lengths that there are. -/
def Fit (k : Int) (s : List UInt8) (n : Int) (m cap : Nat) : Prop :=
  -9223372036854775808 ≤ k ∧ k ≤ 9223372036854775807 ∧ -9223372036854775808 ≤ n ∧ n ≤ 9223372036854775807 ∧ s.length ≤ 281474976710656 ∧ m ≤ cap ∧ (m ≤ 281474976710656 ∧ cap ≤ 9223372036854775807)

mutual
/-- a value is a reply, its elements in blocks of S. -/
def Rep (S : Nat → Prop) (w : World) : Rp.R → Value → Prop
  | .mk k s n l, v => ∃ a cap, v = rv k s n a l.length cap ∧ Fit k s n l.length cap ∧ (l = [] ∨ ∃ b off, a = some ⟨b, off, none⟩ ∧ S b ∧ b < w.heap.size ∧ RepL S w l b off)
def RepL (S : Nat → Prop) (w : World) : List Rp.R → Nat → Nat → Prop
  | [], _, _ => True
  | r :: l, b, off => (∃ v0 v1 v2 v3, w.cell? ⟨b, off, none⟩ = some v0 ∧ w.cell? ⟨b, off + 1, none⟩ = some v1 ∧ w.cell? ⟨b, off + 2, none⟩ = some v2 ∧ w.cell? ⟨b, off + 3, none⟩ = some v3 ∧ Rep S w r (.agg #[v0, v1, v2, v3])) ∧ RepL S w l b (off + 4)
end

mutual
theorem Rep.keeps {S S' : Nat → Prop} {w w' : World} (hk : Keeps S w w') (hS : ∀ k, S k → k < w.heap.size → S' k) : ∀ (r : Rp.R) (v : Value), Rep S w r v → Rep S' w' r v
  | .mk k s n l, v, h => by
    unfold Rep at h ⊢
    obtain ⟨a, cap, hv, hf, h⟩ := h
    refine ⟨a, cap, hv, hf, h.imp id ?_⟩
    rintro ⟨b, off, ha, hb, hlt, hl⟩
    exact ⟨b, off, ha, hS b hb hlt, Nat.lt_of_lt_of_le hlt hk.size, RepL.keeps hk hS l b off hb hlt hl⟩
theorem RepL.keeps {S S' : Nat → Prop} {w w' : World} (hk : Keeps S w w') (hS : ∀ k, S k → k < w.heap.size → S' k) : ∀ (l : List Rp.R) (b off : Nat), S b → b < w.heap.size → RepL S w l b off → RepL S' w' l b off
  | [], _, _, _, _, _ => by unfold RepL; trivial
  | r :: l, b, off, hb, hlt, h => by
    unfold RepL at h ⊢
    obtain ⟨⟨v0, v1, v2, v3, c0, c1, c2, c3, hr⟩, hl⟩ := h
    have e : ∀ o, w'.cell? ⟨b, o, none⟩ = w.cell? ⟨b, o, none⟩ := fun o => hk.cell (p := ⟨b, o, none⟩) hlt hb
    exact ⟨⟨v0, v1, v2, v3, (e _).trans c0, (e _).trans c1, (e _).trans c2, (e _).trans c3, Rep.keeps hk hS r _ hr⟩, RepL.keeps hk hS l b (off + 4) hb hlt hl⟩
end

theorem Rep.mono {S S' : Nat → Prop} {w : World} {r : Rp.R} {v : Value} (h : Rep S w r v) (hS : ∀ k, S k → k < w.heap.size → S' k) : Rep S' w r v := Rep.keeps (Keeps.refl S w) hS r v h

theorem Rep.later {S : Nat → Prop} {w w' : World} {r : Rp.R} {v : Value} (h : Rep S w r v) (hb : Below w.heap.size w w') : Rep S w' r v := Rep.keeps (Keeps.of_below hb fun _ h _ => h) (fun _ h _ => h) r v h

theorem RepL.get {S : Nat → Prop} {w : World} : ∀ {l : List Rp.R} {b off : Nat}, RepL S w l b off → ∀ i (h : i < l.length),
    ∃ v0 v1 v2 v3, w.cell? ⟨b, off + i * 4, none⟩ = some v0 ∧ w.cell? ⟨b, off + i * 4 + 1, none⟩ = some v1 ∧ w.cell? ⟨b, off + i * 4 + 2, none⟩ = some v2 ∧ w.cell? ⟨b, off + i * 4 + 3, none⟩ = some v3 ∧ Rep S w l[i] (.agg #[v0, v1, v2, v3])
  | [], _, _, _, i, h => by simp at h
  | r :: l, b, off, h, i, hi => by
    unfold RepL at h
    cases i with
    | zero => simpa using h.1
    | succ i =>
      have := RepL.get h.2 i (by simpa using hi)
      rw [show off + (i + 1) * 4 = off + 4 + i * 4 by omega]
      simpa using this

/-- the parts of a reply's value. -/
theorem Rep.parts {S : Nat → Prop} {w : World} {r : Rp.R} {v : Value} (h : Rep S w r v) : ∃ a cap, v = rv r.k r.s r.n a r.l.length cap ∧ Fit r.k r.s r.n r.l.length cap ∧ (r.l = [] ∨ ∃ b off, a = some ⟨b, off, none⟩ ∧ S b ∧ b < w.heap.size ∧ RepL S w r.l b off) := by
  cases r
  unfold Rep at h
  exact h

theorem Rep.intro {S : Nat → Prop} {w : World} {k : Int} {s : List UInt8} {n : Int} {l : List Rp.R} {a : Option Addr} {cap : Nat} (hf : Fit k s n l.length cap) (h : l = [] ∨ ∃ b off, a = some ⟨b, off, none⟩ ∧ S b ∧ b < w.heap.size ∧ RepL S w l b off) : Rep S w (.mk k s n l) (rv k s n a l.length cap) := by
  unfold Rep
  exact ⟨a, cap, rfl, hf, h⟩

namespace Rp
theorem heads_ne (lev : Nat) (r : R) : 1 ≤ (heads lev r).length := by cases r; unfold heads; simp
theorem heads_eq (lev : Nat) (r : R) : heads lev r = (⟨r.k, r.s, r.n, r.l.length⟩, lev) :: headsL (lev + 1) r.l := by cases r; rfl
theorem headsL_append (lev : Nat) : ∀ (l m : List R), headsL lev (l ++ m) = headsL lev l ++ headsL lev m
  | [], m => by simp [headsL]
  | r :: l, m => by rw [List.cons_append, headsL, headsL, headsL_append lev l m, List.append_assoc]
theorem headsL_take (lev : Nat) {l : List R} {k : Nat} (h : k < l.length) : headsL lev (l.take (k + 1)) = headsL lev (l.take k) ++ heads lev l[k] := by
  rw [List.take_succ_eq_append_getElem h, headsL_append]
  simp [headsL]
theorem headsL_take_le (lev : Nat) (l : List R) (k : Nat) : (headsL lev (l.take k)).length ≤ (headsL lev l).length := by
  have := congrArg List.length (headsL_append lev (l.take k) (l.drop k))
  rw [List.take_append_drop, List.length_append] at this
  omega
mutual
theorem heads_len (a b : Nat) : ∀ r : R, (heads a r).length = (heads b r).length
  | .mk k s n l => by unfold heads; simp [headsL_len (a + 1) (b + 1) l]
theorem headsL_len (a b : Nat) : ∀ l : List R, (headsL a l).length = (headsL b l).length
  | [] => by simp [headsL]
  | r :: l => by rw [headsL, headsL, List.length_append, List.length_append, heads_len a b r, headsL_len a b l]
end
end Rp

theorem headsL_sub (lev : Nat) {l : List Rp.R} {k : Nat} (h : k < l.length) : ∀ p ∈ Rp.heads lev l[k], p ∈ Rp.headsL lev l := by
  intro p hp
  have := Rp.headsL_append lev (l.take (k + 1)) (l.drop (k + 1))
  rw [List.take_append_drop, Rp.headsL_take lev h] at this
  rw [this]
  simp [hp]

theorem cells_four {A : World} {b t : Nat} {x y z u : Value} (h : A.heap[b]? = some (.cells #[x, y, z, u] t (0, 0))) : A.cell? ⟨b, 0, none⟩ = some x ∧ A.cell? ⟨b, 1, none⟩ = some y ∧ A.cell? ⟨b, 2, none⟩ = some z ∧ A.cell? ⟨b, 3, none⟩ = some u := by
  simp [World.cell?, h]
theorem cells_two {A : World} {b t : Nat} {x y : Value} (h : A.heap[b]? = some (.cells #[x, y] t (0, 0))) : A.cell? ⟨b, 0, none⟩ = some x ∧ A.cell? ⟨b, 1, none⟩ = some y ∧ A.frozen? ⟨b, 0, none⟩ = false ∧ A.frozen? ⟨b, 1, none⟩ = false := by
  simp [World.cell?, World.frozen?, h]
theorem heap_one {A : World} {b t : Nat} {x : Value} (h : A.heap[b]? = some (.cells #[x] t (0, 0))) (v : Value) : (A.setCell ⟨b, 0, none⟩ v).heap[b]? = some (.cells #[v] t (0, 0)) := by
  simp [World.setCell, Array.getElem?_modify, h]
end Go.Proofs.YtokcbcjonbjkgaaGreatDoor
