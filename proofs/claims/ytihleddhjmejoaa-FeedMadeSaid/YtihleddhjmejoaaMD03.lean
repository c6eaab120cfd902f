/- Rows of the call's own: a later world, a lower base. What is told of words in memory; rows that the call owns; results in cells. For any seat with []string. -/
import Derived.Test.YtihleddhjmejoaaProg
import Derived.Test.YtihleddhjmejoaaMD02
import Derived.WalkKit
import Derived.OwnWalkIn
import Derived.Below
import Derived.Maps.OwnIn
import Derived.Shelf.Abstract
import Derived.WalkLawsBesides
import Derived.WalkSpells
import Derived.TacticsInMore
import Derived.LoopNIn
import Derived.LoopIn
import Derived.Lib.Hide
import Derived.Outline
import Derived.IntWalk
import Derived.Deep.QuietTactic
import Derived.BigQuiet
import Derived.Laws.IdiomStrings
import Derived.Laws.Cover1
namespace Go.Proofs.Ytihleddhjmejoaa
open Go.RowKit
theorem owns_kept {w w' : World} {base : Nat} {e : TypeId} {size n : Nat} {v : Value} {xs : List Value} {S : Nat → Prop} (h : w.ownsRow base e size v n xs) (hk : Keeps S w w') (hS : ∀ g, v.ownBlock = some g → S g) : w'.ownsRow base e size v n xs := by
  refine ⟨h.1, ?_⟩
  rcases h.2 with hn | ⟨g, cap, cur, rfl, hb, hg, rest⟩
  · exact .inl hn
  · exact .inr ⟨g, cap, cur, rfl, hb, hk.heap hg (hS g rfl), rest⟩

theorem owns_base {w : World} {base base' : Nat} {e : TypeId} {size n : Nat} {v : Value} {xs : List Value} (h : w.ownsRow base e size v n xs) (hb : base' ≤ base) : w.ownsRow base' e size v n xs := by
  refine ⟨h.1, ?_⟩
  rcases h.2 with hn | ⟨g, cap, cur, rfl, hg, rest⟩
  · exact .inl hn
  · exact .inr ⟨g, cap, cur, rfl, by omega, rest⟩
end Go.Proofs.Ytihleddhjmejoaa
namespace Go.Proofs.Ytihleddhjmejoaa
open Go.RowKit Go.Shelf
attribute [local go_sem] Oper.semAt_some

theorem getD_eq {α : Type} {l : List α} {d : α} {k : Nat} (h : k < l.length) : l.getD k d = l[k] := by simp [List.getD, h]

/-- a slice of words. -/
def Wds (w : World) (a : Option Addr) (cap : Nat) (ws : List (List UInt8)) : Prop :=
  ws.length ≤ cap ∧ cap ≤ 9223372036854775807 ∧ (∀ s ∈ ws, s.length ≤ 9223372036854775807) ∧
    (ws = [] ∨ ∃ b off, a = some ⟨b, off, none⟩ ∧ b < w.heap.size ∧ ∀ k, k < ws.length → w.cell? ⟨b, off + k, none⟩ = some (.string ⟨(ws.getD k []).toArray⟩))

theorem Wds.keep {w w' : World} {a : Option Addr} {cap : Nat} {ws : List (List UInt8)} (h : Wds w a cap ws) (hs : w.heap.size ≤ w'.heap.size) (hk : ∀ b off, a = some ⟨b, off, none⟩ → b < w.heap.size → w'.heap[b]? = w.heap[b]?) : Wds w' a cap ws := by
  obtain ⟨h0, h1, h2, h3⟩ := h
  refine ⟨h0, h1, h2, ?_⟩
  rcases h3 with h3 | ⟨b, off, ha, hlt, hc⟩
  · exact .inl h3
  · exact .inr ⟨b, off, ha, Nat.lt_of_lt_of_le hlt hs, fun k hk' => by rw [World.cell?_of_block (w := w) (a := ⟨b, off + k, none⟩) (hk b off ha hlt)]; exact hc k hk'⟩

theorem Wds.later {w w' : World} {a : Option Addr} {cap : Nat} {ws : List (List UInt8)} (h : Wds w a cap ws) (hb : Below w.heap.size w w') : Wds w' a cap ws :=
  h.keep hb.size fun b _ _ hlt => hb.block b hlt

theorem Wds.get {w : World} {a : Option Addr} {cap : Nat} {ws : List (List UInt8)} (h : Wds w a cap ws) (h0 : 0 < ws.length) :
    ∃ b off, a = some ⟨b, off, none⟩ ∧ b < w.heap.size ∧ ∀ k, k < ws.length → w.cell? ⟨b, off + k, none⟩ = some (.string ⟨(ws.getD k []).toArray⟩) := by
  rcases h.2.2.2 with rfl | h
  · simp at h0
  · exact h

theorem Wds.len {w : World} {a : Option Addr} {cap : Nat} {ws : List (List UInt8)} (h : Wds w a cap ws) {k : Nat} : (ws.getD k []).length ≤ 9223372036854775807 := by
  by_cases hk : k < ws.length
  · rw [getD_eq hk]; exact h.2.2.1 _ (List.getElem_mem hk)
  · simp [List.getD, Nat.le_of_not_lt hk]

/-- a row of words that the call owns. -/
theorem wds_of_row {w : World} {B : Nat} {v : Value} {ws : List (List UInt8)} (h : w.ownsRow B 9 1 v ws.length (ws.map fun s => Value.string ⟨s.toArray⟩)) (hl : ∀ s ∈ ws, s.length ≤ 9223372036854775807) :
    ∃ a cap, v = .slice a ws.length cap ∧ Wds w a cap ws ∧ (ws ≠ [] → ∃ g, a = some ⟨g, 0, none⟩ ∧ B ≤ g ∧ g < w.heap.size ∧ ∀ j, w.frozen? ⟨g, j, none⟩ = false) := by
  obtain ⟨_, hcase⟩ := h
  rcases hcase with ⟨rfl, hz⟩ | ⟨g, cap, cur, hv, hgB, hgg, hnc, hcm, hcs, htk⟩
  · have hws : ws = [] := by simpa using hz
    subst hws
    exact ⟨none, 0, rfl, ⟨Nat.le_refl _, by decide, by simp, .inl rfl⟩, fun h => (h rfl).elim⟩
  · have hlt : g < w.heap.size := (Array.getElem?_eq_some_iff.1 hgg).1
    refine ⟨_, cap, hv, ⟨hnc, by unfold maxLen at hcm; omega, hl, .inr ⟨g, 0, rfl, hlt, ?_⟩⟩, fun _ => ⟨g, rfl, hgB, hlt, ?_⟩⟩
    · intro k hk
      rw [Nat.zero_add, cell_of_row w g k cur 9 (0, 0) hgg]
      have := congrArg (fun l : List Value => l[k]?) htk
      simp only [Nat.mul_one] at this
      simp [hk] at this
      rw [this]
      simp [List.getD, hk]
    · intro j
      simp [World.frozen?, hgg]

/-- a call in a round. -/
theorem in_round {l f : Nat} {args : Array Value} {w : World} {R : Ending → World → Prop} (h : Calls Try.prog f args w R) : CallsIn (Fence.wide.inRound l) 0 Try.prog f args w R := CallsIn.inRound l (callsIn_wide.2 h)

theorem results_cellt {fn : Func} {t u : Tmp} {T : TypeId} (h : fn.results = #[.cell t T, .tmp u]) {tmps : Array Value} {P : Program} {w : World} {p : Addr} {v : Value} (hp : tmps.getD t undef = .pointer (some p)) (hl : (loadVar T p).run P w = .ok v w) :
    (results fn tmps).run P w = .ok (.tuple #[v, tmps.getD u undef]) w := by
  have hp' : tmps[t]?.getD undef = .pointer (some p) := by simpa using hp
  simp [results, h, hp', hl, asAddr]
theorem results_cell {fn : Func} {t : Tmp} {T : TypeId} (h : fn.results = #[.cell t T]) {tmps : Array Value} {P : Program} {w : World} {p : Addr} {v : Value} (hp : tmps.getD t undef = .pointer (some p)) (hl : (loadVar T p).run P w = .ok v w) :
    (results fn tmps).run P w = .ok v w := by
  have hp' : tmps[t]?.getD undef = .pointer (some p) := by simpa using hp
  simp [results, h, hp', hl, asAddr]
theorem results_cell2 {fn : Func} {t u : Tmp} {T U : TypeId} (h : fn.results = #[.cell t T, .cell u U]) {tmps : Array Value} {P : Program} {w : World} {p q : Addr} {v x : Value} (hp : tmps.getD t undef = .pointer (some p)) (hl : (loadVar T p).run P w = .ok v w)
    (hq : tmps.getD u undef = .pointer (some q)) (hm : (loadVar U q).run P w = .ok x w) : (results fn tmps).run P w = .ok (.tuple #[v, x]) w := by
  have hp' : tmps[t]?.getD undef = .pointer (some p) := by simpa using hp
  have hq' : tmps[u]?.getD undef = .pointer (some q) := by simpa using hq
  simp [results, h, hp', hq', hl, hm, asAddr]
/-- a word as yield takes it. -/
def encW (x : List UInt8) : Array Value := #[.string ⟨x.toArray⟩]
/-- words as cells. -/
def wcells (ws : List (List UInt8)) : List Value := ws.map fun s => Value.string ⟨s.toArray⟩

theorem info9 : (Try.prog.info? 9).map (fun i => (i.zero, i.size, i.bytes)) = some (some (.string ⟨#[]⟩), 1, 16) := by kernel_rfl

theorem one_news (w : World) (B : Nat) (hB : w.heap.size = B) (x : Value) (t : TypeId) : ∀ j u, [x][j]? = some u → (w.alloc (.cells #[x] t)).cell? ((⟨B, 0, none⟩ : Addr).add j) = some u := by
  intro j u h
  subst hB
  match j, h with
  | 0, h =>
    simp at h
    subst h
    simp [Addr.add]

theorem loadVarB (w : World) (p : Addr) (v : Value) (h : w.cell? p = some v) : (loadVar 4 p).run Try.prog w = .ok v w := by
  simp [loadVar, go_sem, h]

theorem bcell {W w1 : World} (hb : Below W.heap.size W w1) : (∀ b o, b < W.heap.size → w1.cell? ⟨b, o, none⟩ = W.cell? ⟨b, o, none⟩) ∧ (∀ b o, b < W.heap.size → w1.frozen? ⟨b, o, none⟩ = W.frozen? ⟨b, o, none⟩) :=
  ⟨fun b o h => hb.cell (p := ⟨b, o, none⟩) h, fun b o h => hb.frozen (p := ⟨b, o, none⟩) h⟩

/-- a literal slice of words. -/
theorem wds_new (w : World) (ws : List (List UInt8)) (hl : ws.length ≤ 1000) (hs : ∀ s ∈ ws, s.length ≤ 9223372036854775807) : Wds (w.alloc (.cells (wcells ws).toArray 9)) (some ⟨w.heap.size, 0, none⟩) ws.length ws := by
  refine ⟨Nat.le_refl _, by omega, hs, .inr ⟨w.heap.size, 0, rfl, by simp, fun k hk => ?_⟩⟩
  rw [Nat.zero_add, cell_of_row _ _ k _ 9 (0, 0) (World.alloc_heap_new w _), getD_eq hk]
  simp [wcells, hk]

/-- words in a row that the call owns. -/
def RowW (w : World) (v : Value) (ws : List (List UInt8)) (W : World) : Prop := W.ownsRow w.heap.size 9 1 v ws.length (wcells ws) ∧ Below w.heap.size w W

theorem RowW.later {w W W' : World} {v : Value} {ws : List (List UInt8)} (h : RowW w v ws W) (hb : Below W.heap.size W W') : RowW w v ws W' :=
  ⟨owns_kept (S := fun _ => True) h.1 (Keeps.of_below hb fun _ h _ => h) fun _ _ => trivial, h.2.trans (hb.mono h.2.size)⟩

theorem RowW.none {w W : World} (hb : Below w.heap.size w W) : RowW w (.slice none 0 0) [] W := ⟨by simpa [wcells] using World.ownsRow_nil _ _ _ _, hb⟩

theorem RowW.append {w W w1 : World} {v v' : Value} {ws : List (List UInt8)} {x : List UInt8} (h : RowW w v ws W) (h1 : w1.ownsRow w.heap.size 9 1 v' (ws.length + 1) (wcells ws ++ [.string ⟨x.toArray⟩]))
    (hg : (W.alloc (.cells #[.string ⟨x.toArray⟩] 9)).grownBy w1 v.ownBlock) : RowW w v' (ws ++ [x]) w1 := by
  refine ⟨by simpa [wcells] using h1, ?_⟩
  have hb := h.2.alloc h.2.size (.cells #[.string ⟨x.toArray⟩] 9)
  exact hb.trans ((Keeps.of_grown (S := fun k => some k ≠ v.ownBlock) hg fun r e h => h e.symm).below hb.size fun k hk e => by have := (h.1.lt k e.symm).1; omega)

theorem RowW.words {w W : World} {v : Value} {ws : List (List UInt8)} (h : RowW w v ws W) (hs : ∀ s ∈ ws, s.length ≤ 9223372036854775807) : ∃ a cap, v = .slice a ws.length cap ∧ Wds W a cap ws := by
  obtain ⟨a, cap, hv, hw, _⟩ := wds_of_row h.1 hs
  exact ⟨a, cap, hv, hw⟩
theorem wds_nil (w : World) : Wds w none 0 [] := ⟨Nat.le_refl _, by decide, by simp, .inl rfl⟩

end Go.Proofs.Ytihleddhjmejoaa
