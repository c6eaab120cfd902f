/- What is told of words and of rows of the table in memory. -/
import Derived.Test.YtibipalncknddaaProg
import Derived.Test.YtibipalncknddaaSeq
import Derived.Test.YtibipalncknddaaCmPlain
import Derived.Shelf.Abstract
import Derived.WalkKit
import Derived.WalkLawsBesides
import Derived.WalkSpells
import Derived.OwnWalkIn
import Derived.TacticsInMore
import Derived.LoopNIn
import Derived.LoopIn
import Derived.Lib.Hide
import Derived.Outline
import Derived.Below
import Derived.IntWalk
import Derived.Deep.QuietTactic
import Derived.BigQuiet
import Derived.Laws.IdiomStrings
namespace Go.Proofs.Ytibipalncknddaa
open Go.RowKit Go.Shelf
attribute [local go_sem] Oper.semAt_some

/-- a row of the table as a value. -/
def spV (s : Cm.Sp) : Value := .agg #[.string ⟨s.nm.toArray⟩, .int .i64 s.least, .int .i64 s.most, .int .i64 s.first, .int .i64 s.last, .int .i64 s.step, .bool s.wr]
def spL (s : Cm.Sp) : List Value := [.string ⟨s.nm.toArray⟩, .int .i64 s.least, .int .i64 s.most, .int .i64 s.first, .int .i64 s.last, .int .i64 s.step, .bool s.wr]

/-- .. in a block of its own. -/
def SpBox (w : World) (B : Nat) (s : Cm.Sp) : Prop := w.heap[B]? = some (.cells (spL s).toArray 26 (0, 0))

/-- a row's cells. -/
def SpAt (w : World) (B o : Nat) (s : Cm.Sp) : Prop :=
  w.cell? ⟨B, o, none⟩ = some (.string ⟨s.nm.toArray⟩) ∧ w.cell? ⟨B, o + 1, none⟩ = some (.int .i64 s.least) ∧ w.cell? ⟨B, o + 2, none⟩ = some (.int .i64 s.most) ∧ w.cell? ⟨B, o + 3, none⟩ = some (.int .i64 s.first) ∧
    w.cell? ⟨B, o + 4, none⟩ = some (.int .i64 s.last) ∧ w.cell? ⟨B, o + 5, none⟩ = some (.int .i64 s.step) ∧ w.cell? ⟨B, o + 6, none⟩ = some (.bool s.wr)

theorem SpBox.at {w : World} {B : Nat} {s : Cm.Sp} (h : SpBox w B s) : SpAt w B 0 s := by
  unfold SpBox at h
  simp [SpAt, World.cell?, h, spL]

theorem SpBox.lt {w : World} {B : Nat} {s : Cm.Sp} (h : SpBox w B s) : B < w.heap.size := (Array.getElem?_eq_some_iff.1 h).1
theorem SpBox.free {w : World} {B : Nat} {s : Cm.Sp} (h : SpBox w B s) (o : Nat) (ho : o < 7) : w.frozen? ⟨B, o, none⟩ = false := by
  unfold SpBox at h
  match o, ho with
  | 0, _ => simp [World.frozen?, h, spL]
  | 1, _ => simp [World.frozen?, h, spL]
  | 2, _ => simp [World.frozen?, h, spL]
  | 3, _ => simp [World.frozen?, h, spL]
  | 4, _ => simp [World.frozen?, h, spL]
  | 5, _ => simp [World.frozen?, h, spL]
  | 6, _ => simp [World.frozen?, h, spL]

theorem SpAt.keep {w w' : World} {B o : Nat} {s : Cm.Sp} (h : SpAt w B o s) (hk : ∀ j, w'.cell? ⟨B, j, none⟩ = w.cell? ⟨B, j, none⟩) : SpAt w' B o s := by
  unfold SpAt at h ⊢
  simp only [hk]
  exact h

theorem loadVar26 (w : World) (b : Nat) (s : Cm.Sp) (h : SpAt w b 0 s) : (loadVar 26 ⟨b, 0, none⟩).run Try.prog w = .ok (spV s) w := by
  obtain ⟨h0, h1, h2, h3, h4, h5, h6⟩ := h
  simp at h0 h1 h2 h3 h4 h5 h6
  simp [loadVar, go_sem, h0, h1, h2, h3, h4, h5, h6, spV]

/-- a slice of words. -/
def Wds (w : World) (a : Option Addr) (cap : Nat) (ws : List (List UInt8)) : Prop :=
  ws.length ≤ cap ∧ cap ≤ 9223372036854775807 ∧ (∀ s ∈ ws, s.length ≤ 9223372036854775807) ∧
    (ws = [] ∨ ∃ b off, a = some ⟨b, off, none⟩ ∧ b < w.heap.size ∧ ∀ k, k < ws.length → w.cell? ⟨b, off + k, none⟩ = some (.string ⟨(ws.getD k []).toArray⟩))

theorem Wds.keep {w w' : World} {a : Option Addr} {cap : Nat} {ws : List (List UInt8)} (h : Wds w a cap ws) (hs : w.heap.size ≤ w'.heap.size) (hk : ∀ b off, a = some ⟨b, off, none⟩ → b < w.heap.size → w'.heap[b]? = w.heap[b]?) : Wds w' a cap ws := by
  obtain ⟨h0, h1, h2, h3⟩ := h
  refine ⟨h0, h1, h2, ?_⟩
  rcases h3 with h3 | ⟨b, off, ha, hlt, hc⟩
  · exact .inl h3
  · exact .inr ⟨b, off, ha, Nat.lt_of_lt_of_le hlt hs, fun k hk' => by rw [World.cell?_of_block (w := w) (a := ⟨b, off + k, none⟩) (hk b off ha hlt)]; exact hc k hk'⟩

theorem Wds.later {w w' : World} {a : Option Addr} {cap : Nat} {ws : List (List UInt8)} (h : Wds w a cap ws) (hb : Below w.heap.size w w') : Wds w' a cap ws :=
  h.keep hb.size fun b _ _ hlt => hb.block b hlt

theorem Wds.get {w : World} {a : Option Addr} {cap : Nat} {ws : List (List UInt8)} (h : Wds w a cap ws) (h0 : 0 < ws.length) :
    ∃ b off, a = some ⟨b, off, none⟩ ∧ b < w.heap.size ∧ ∀ k, k < ws.length → w.cell? ⟨b, off + k, none⟩ = some (.string ⟨(ws.getD k []).toArray⟩) := by
  rcases h.2.2.2 with rfl | h
  · simp at h0
  · exact h

theorem Wds.len {w : World} {a : Option Addr} {cap : Nat} {ws : List (List UInt8)} (h : Wds w a cap ws) {k : Nat} : (ws.getD k []).length ≤ 9223372036854775807 := by
  by_cases hk : k < ws.length
  · rw [Cm.getD_eq hk]; exact h.2.2.1 _ (List.getElem_mem hk)
  · simp [List.getD, Nat.le_of_not_lt hk]

/-- a row of words that the call owns. -/
theorem wds_of_row {w : World} {B : Nat} {v : Value} {ws : List (List UInt8)} (h : w.ownsRow B 9 1 v ws.length (ws.map fun s => Value.string ⟨s.toArray⟩)) (hl : ∀ s ∈ ws, s.length ≤ 9223372036854775807) :
    ∃ a cap, v = .slice a ws.length cap ∧ Wds w a cap ws ∧ (ws ≠ [] → ∃ g, a = some ⟨g, 0, none⟩ ∧ B ≤ g ∧ g < w.heap.size ∧ ∀ j, w.frozen? ⟨g, j, none⟩ = false) := by
  obtain ⟨_, hcase⟩ := h
  rcases hcase with ⟨rfl, hz⟩ | ⟨g, cap, cur, hv, hgB, hgg, hnc, hcm, hcs, htk⟩
  · have hws : ws = [] := by simpa using hz
    subst hws
    exact ⟨none, 0, rfl, ⟨Nat.le_refl _, by decide, by simp, .inl rfl⟩, fun h => (h rfl).elim⟩
  · have hlt : g < w.heap.size := (Array.getElem?_eq_some_iff.1 hgg).1
    refine ⟨_, cap, hv, ⟨hnc, by unfold maxLen at hcm; omega, hl, .inr ⟨g, 0, rfl, hlt, ?_⟩⟩, fun _ => ⟨g, rfl, hgB, hlt, ?_⟩⟩
    · intro k hk
      rw [Nat.zero_add, cell_of_row w g k cur 9 (0, 0) hgg]
      have := congrArg (fun l : List Value => l[k]?) htk
      simp only [Nat.mul_one] at this
      simp [hk] at this
      rw [this]
      simp [List.getD, hk]
    · intro j
      simp [World.frozen?, hgg]

/-- a call in a round. -/
theorem in_round {l f : Nat} {args : Array Value} {w : World} {R : Ending → World → Prop} (h : Calls Try.prog f args w R) : CallsIn (Fence.wide.inRound l) 0 Try.prog f args w R := CallsIn.inRound l (callsIn_wide.2 h)

theorem results_cellt {fn : Func} {t u : Tmp} {T : TypeId} (h : fn.results = #[.cell t T, .tmp u]) {tmps : Array Value} {P : Program} {w : World} {p : Addr} {v : Value} (hp : tmps.getD t undef = .pointer (some p)) (hl : (loadVar T p).run P w = .ok v w) :
    (results fn tmps).run P w = .ok (.tuple #[v, tmps.getD u undef]) w := by
  have hp' : tmps[t]?.getD undef = .pointer (some p) := by simpa using hp
  simp [results, h, hp', hl, asAddr]
theorem results_cell {fn : Func} {t : Tmp} {T : TypeId} (h : fn.results = #[.cell t T]) {tmps : Array Value} {P : Program} {w : World} {p : Addr} {v : Value} (hp : tmps.getD t undef = .pointer (some p)) (hl : (loadVar T p).run P w = .ok v w) :
    (results fn tmps).run P w = .ok v w := by
  have hp' : tmps[t]?.getD undef = .pointer (some p) := by simpa using hp
  simp [results, h, hp', hl, asAddr]
theorem results_cell2 {fn : Func} {t u : Tmp} {T U : TypeId} (h : fn.results = #[.cell t T, .cell u U]) {tmps : Array Value} {P : Program} {w : World} {p q : Addr} {v x : Value} (hp : tmps.getD t undef = .pointer (some p)) (hl : (loadVar T p).run P w = .ok v w)
    (hq : tmps.getD u undef = .pointer (some q)) (hm : (loadVar U q).run P w = .ok x w) : (results fn tmps).run P w = .ok (.tuple #[v, x]) w := by
  have hp' : tmps[t]?.getD undef = .pointer (some p) := by simpa using hp
  have hq' : tmps[u]?.getD undef = .pointer (some q) := by simpa using hq
  simp [results, h, hp', hq', hl, hm, asAddr]
theorem loadVar4 (w : World) (p : Addr) (v : Value) (h : w.cell? p = some v) : (loadVar 4 p).run Try.prog w = .ok v w := by
  simp [loadVar, go_sem, h]

set_option maxHeartbeats 1000000 in
theorem capital_any (c : UInt8) (w : World) : Calls Try.prog 23 #[.int .u8 (c.toNat : Int)] w fun e w' => e = .returned (.int .u8 ((Cm.cap c).toNat : Int)) ∧ w = w' := by
  have hc : (c.toNat : Int) ≤ 255 := by have := c.toNat_lt; omega
  have hc0 : (0 : Int) ≤ c.toNat := by omega
  by_cases h : 97 ≤ (c.toNat : Int) ∧ (c.toNat : Int) ≤ 122
  · obtain ⟨h1, h2⟩ := h
    have he : Hid (((Cm.cap c).toNat : Int) = (c.toNat : Int) - 97 + 65) := Lib.hid (by
      unfold Cm.cap
      rw [if_pos ⟨by rw [UInt8.le_iff_toNat_le]; simp; omega, by rw [UInt8.le_iff_toNat_le]; simp; omega⟩]
      rw [UInt8.toNat_sub_of_le _ _ (by rw [UInt8.le_iff_toNat_le]; simp; omega)]
      simp
      omega)
    generalize (c.toNat : Int) = x at *
    go_enter Try.func23, Try.ntmps23
    go_wp2
    go_ret
    exact ⟨by rw [he.out]; rfl, rfl⟩
  · have he : Hid (((Cm.cap c).toNat : Int) = (c.toNat : Int)) := Lib.hid (by
      unfold Cm.cap
      rw [if_neg]
      rintro ⟨g1, g2⟩
      rw [UInt8.le_iff_toNat_le] at g1 g2
      simp at g1 g2
      omega)
    generalize (c.toNat : Int) = x at *
    by_cases h1 : 97 ≤ x
    · have h2 : 122 < x := by omega
      clear h
      go_enter Try.func23, Try.ntmps23
      go_wp2
      go_ret
      exact ⟨by rw [he.out]; rfl, rfl⟩
    · have h2 : x < 97 := by omega
      clear h h1
      go_enter Try.func23, Try.ntmps23
      go_wp2
      go_ret
      exact ⟨by rw [he.out]; rfl, rfl⟩

end Go.Proofs.Ytibipalncknddaa
