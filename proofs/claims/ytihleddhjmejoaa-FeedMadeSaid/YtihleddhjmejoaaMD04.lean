/- Rows of words: pieces. Fields in memory, rows of them. Items in memory; Alive, Type, mayCount and bare, of the program and of the reference. The contracts of the iterators over words, over names, over all texts of an item. The contract of rises: whether each text that an iterator hands out is greater than the one before it. The contract of the iterator over all texts of an item. The contract of fits: whether an item is valid as far as that hangs neither on its end of life nor on how long its texts are. The contract of item.May. -/
import Derived.Test.YtihleddhjmejoaaMD03
import Derived.Test.YtihleddhjmejoaaMD01
import Derived.RegionIn
import Derived.Sort.Walk0
namespace Go.Proofs.Ytihleddhjmejoaa
open Go.RowKit Go.Shelf
attribute [local go_sem] Oper.semAt_some
set_option linter.unusedVariables false
set_option linter.unusedSimpArgs false

theorem take_succ_getD {α : Type} {l : List α} {d : α} {k : Nat} (h : k < l.length) : l.take (k + 1) = l.take k ++ [l.getD k d] := by
  rw [List.take_succ_eq_append_getElem h, getD_eq h]
theorem wcells_len (ws : List (List UInt8)) : (wcells ws).length = ws.length := by simp [wcells]
theorem RowW.empty {w W : World} (hb : Below w.heap.size w W) : RowW w (.slice (some ⟨W.heap.size, 0, Option.none⟩) 0 0) [] (W.alloc (.cells #[] 9)) :=
  ⟨⟨by simp [wcells], .inr ⟨W.heap.size, 0, _, rfl, hb.size, World.alloc_heap_new W _, Nat.le_refl _, by decide, rfl, by simp [wcells]⟩⟩, hb.alloc hb.size _⟩
theorem news_of {w : World} {b off cap : Nat} {ws : List (List UInt8)} (h : Wds w (some ⟨b, off, Option.none⟩) cap ws) : ∀ j u, (wcells ws)[j]? = some u → w.cell? ((⟨b, off, Option.none⟩ : Addr).add j) = some u := by
  intro j u hu
  have hj : j < ws.length := by
    have := (List.getElem?_eq_some_iff.1 hu).1
    simpa [wcells] using this
  obtain ⟨b', off', he, _, hc⟩ := h.get (by omega)
  cases he
  have e : (⟨b, off, Option.none⟩ : Addr).add j = ⟨b, off + j, Option.none⟩ := by unfold Addr.add; split <;> simp_all
  rw [e, hc j hj, getD_eq hj]
  simpa [wcells, hj] using hu
theorem news_one {ws : List (List UInt8)} : ∀ u ∈ wcells ws, u.oneCell' = true := by
  intro u hu
  obtain ⟨s, _, rfl⟩ := List.mem_map.1 hu
  rfl
theorem RowW.more {w W w1 : World} {v v' : Value} {ws xs : List (List UInt8)} {n : Nat} {cs : List Value} (h : RowW w v ws W) (h1 : w1.ownsRow w.heap.size 9 1 v' n cs) (hn : n = ws.length + xs.length) (hc : cs = wcells ws ++ wcells xs) (hg : W.grownBy w1 v.ownBlock) : RowW w v' (ws ++ xs) w1 := by
  refine ⟨?_, h.2.trans ((Keeps.of_grown (S := fun k => some k ≠ v.ownBlock) hg fun r e h => h e.symm).below h.2.size fun k hk e => by have := (h.1.lt k e.symm).1; omega)⟩
  subst hn hc
  rw [List.length_append]
  simpa [wcells] using h1
theorem Wds.drop {w : World} {b off cap : Nat} {ws : List (List UInt8)} (h : Wds w (some ⟨b, off, Option.none⟩) cap ws) (n : Nat) (hn : n < cap) (hnw : n ≤ ws.length) : Wds w (some ⟨b, off + n, Option.none⟩) (cap - n) (ws.drop n) := by
  obtain ⟨h0, h1, h2, h3⟩ := h
  refine ⟨by rw [List.length_drop]; omega, by omega, fun s hs => h2 s (List.mem_of_mem_drop hs), ?_⟩
  rcases h3 with rfl | ⟨b', off', he, hlt, hc⟩
  · left; simp
  · cases he
    refine .inr ⟨b, off + n, rfl, hlt, fun k hk => ?_⟩
    rw [List.length_drop] at hk
    rw [Nat.add_assoc, hc (n + k) (by omega), getD_eq (l := ws) (by omega), getD_eq (by rw [List.length_drop]; exact hk), List.getElem_drop]
theorem Wds.take {w : World} {a : Option Addr} {cap : Nat} {ws : List (List UInt8)} (h : Wds w a cap ws) (n : Nat) : Wds w a cap (ws.take n) := by
  obtain ⟨h0, h1, h2, h3⟩ := h
  refine ⟨by rw [List.length_take]; omega, h1, fun s hs => h2 s (List.mem_of_mem_take hs), ?_⟩
  rcases h3 with rfl | ⟨b, off, ha, hlt, hc⟩
  · left; simp
  · refine .inr ⟨b, off, ha, hlt, fun k hk => ?_⟩
    rw [List.length_take] at hk
    rw [hc k (by omega), getD_eq (l := ws) (by omega), getD_eq (by rw [List.length_take]; exact hk), List.getElem_take]
end Go.Proofs.Ytihleddhjmejoaa
namespace Go.Proofs.Ytihleddhjmejoaa
open Go.RowKit Go.Shelf
attribute [local go_sem] Oper.semAt_some
set_option linter.unusedVariables false
set_option linter.unusedSimpArgs false

/-- a slice of fields. -/
def Fds (w : World) (a : Option Addr) (cap : Nat) (fs : List (List UInt8 × List UInt8)) : Prop :=
  fs.length ≤ cap ∧ cap ≤ 9223372036854775807 ∧ (∀ p ∈ fs, p.1.length ≤ 9223372036854775807 ∧ p.2.length ≤ 9223372036854775807) ∧
    (fs = [] ∨ ∃ b off, a = some ⟨b, off, none⟩ ∧ b < w.heap.size ∧ ∀ k, k < fs.length → w.cell? ⟨b, off + k * 2, none⟩ = some (.string ⟨(fs.getD k ([], [])).1.toArray⟩) ∧ w.cell? ⟨b, off + k * 2 + 1, none⟩ = some (.string ⟨(fs.getD k ([], [])).2.toArray⟩))
theorem Fds.get {w : World} {a : Option Addr} {cap : Nat} {fs : List (List UInt8 × List UInt8)} (h : Fds w a cap fs) (h0 : 0 < fs.length) :
    ∃ b off, a = some ⟨b, off, none⟩ ∧ b < w.heap.size ∧ ∀ k, k < fs.length → w.cell? ⟨b, off + k * 2, none⟩ = some (.string ⟨(fs.getD k ([], [])).1.toArray⟩) ∧ w.cell? ⟨b, off + k * 2 + 1, none⟩ = some (.string ⟨(fs.getD k ([], [])).2.toArray⟩) := by
  rcases h.2.2.2 with rfl | h
  · simp at h0
  · exact h
theorem Fds.keep {w w' : World} {a : Option Addr} {cap : Nat} {fs : List (List UInt8 × List UInt8)} (h : Fds w a cap fs) (hs : w.heap.size ≤ w'.heap.size) (hk : ∀ b off, a = some ⟨b, off, none⟩ → b < w.heap.size → w'.heap[b]? = w.heap[b]?) : Fds w' a cap fs := by
  obtain ⟨h0, h1, h2, h3⟩ := h
  refine ⟨h0, h1, h2, ?_⟩
  rcases h3 with h3 | ⟨b, off, ha, hlt, hc⟩
  · exact .inl h3
  · exact .inr ⟨b, off, ha, Nat.lt_of_lt_of_le hlt hs, fun k hk' => by
      rw [World.cell?_of_block (w := w) (a := ⟨b, off + k * 2, none⟩) (hk b off ha hlt), World.cell?_of_block (w := w) (a := ⟨b, off + k * 2 + 1, none⟩) (hk b off ha hlt)]
      exact hc k hk'⟩
theorem Fds.later {w w' : World} {a : Option Addr} {cap : Nat} {fs : List (List UInt8 × List UInt8)} (h : Fds w a cap fs) (hb : Below w.heap.size w w') : Fds w' a cap fs :=
  h.keep hb.size fun b _ _ hlt => hb.block b hlt
theorem Fds.len {w : World} {a : Option Addr} {cap : Nat} {fs : List (List UInt8 × List UInt8)} (h : Fds w a cap fs) {k : Nat} : (fs.getD k ([], [])).1.length ≤ 9223372036854775807 ∧ (fs.getD k ([], [])).2.length ≤ 9223372036854775807 := by
  by_cases hk : k < fs.length
  · rw [getD_eq hk]; exact h.2.2.1 _ (List.getElem_mem hk)
  · simp [List.getD, Nat.le_of_not_lt hk]
theorem fds_nil (w : World) : Fds w none 0 [] := ⟨Nat.le_refl _, by decide, by simp, .inl rfl⟩
theorem infoF : (Try.prog.info? 87).map (fun i => (i.zero, i.size, i.bytes)) = some (some (.agg #[.string ⟨#[]⟩, .string ⟨#[]⟩]), 2, 32) := by kernel_rfl
/-- fields as cells. -/
def fcells (fs : List (List UInt8 × List UInt8)) : List Value := fs.flatMap fun p => [Value.string ⟨p.1.toArray⟩, Value.string ⟨p.2.toArray⟩]
theorem fcells_at (l : List (List UInt8 × List UInt8)) (k : Nat) (h : k < l.length) : (fcells l)[k * 2]? = some (.string ⟨(l.getD k ([], [])).1.toArray⟩) ∧ (fcells l)[k * 2 + 1]? = some (.string ⟨(l.getD k ([], [])).2.toArray⟩) := by
  induction l generalizing k with
  | nil => simp at h
  | cons x l ih =>
    have e : fcells (x :: l) = .string ⟨x.1.toArray⟩ :: .string ⟨x.2.toArray⟩ :: fcells l := by simp [fcells]
    rw [e]
    cases k with
    | zero => simp
    | succ k =>
      have := ih k (by simpa using h)
      rw [show (k + 1) * 2 = k * 2 + 1 + 1 by omega, show k * 2 + 1 + 1 + 1 = k * 2 + 1 + 1 + 1 from rfl]
      simpa using this
theorem fcells_len (l : List (List UInt8 × List UInt8)) : (fcells l).length = l.length * 2 := by
  induction l with
  | nil => rfl
  | cons s l ih => simp only [fcells, List.flatMap_cons, List.length_append, List.length_cons, List.length_nil] at ih ⊢; omega
theorem fcells_snoc (l : List (List UInt8 × List UInt8)) (x y : List UInt8) : fcells (l ++ [(x, y)]) = fcells l ++ [Value.string ⟨x.toArray⟩, Value.string ⟨y.toArray⟩] := by simp [fcells]
/-- a slice of fields that the call itself appended to. -/
theorem fds_of_row {w : World} {base : Nat} {v : Value} {l : List (List UInt8 × List UInt8)} (h : w.ownsRow base 87 2 v l.length (fcells l)) (hl : ∀ p ∈ l, p.1.length ≤ 9223372036854775807 ∧ p.2.length ≤ 9223372036854775807) :
    ∃ a cap, v = .slice a l.length cap ∧ Fds w a cap l ∧ (l ≠ [] → ∃ g, a = some ⟨g, 0, none⟩ ∧ base ≤ g ∧ g < w.heap.size ∧ ∀ j, w.frozen? ⟨g, j, none⟩ = false) := by
  obtain ⟨_, hcase⟩ := h
  rcases hcase with ⟨h1, h2⟩ | ⟨g, cap, cur, h1, hgB, hgg, hnc, hcm, hcs, htk⟩
  · have h0 : l = [] := List.eq_nil_of_length_eq_zero h2
    subst h0
    exact ⟨none, 0, h1, fds_nil w, fun h => (h rfl).elim⟩
  · have hlt : g < w.heap.size := (Array.getElem?_eq_some_iff.1 hgg).1
    refine ⟨some ⟨g, 0, none⟩, cap, h1, ⟨hnc, by unfold maxLen at hcm; omega, hl, .inr ⟨g, 0, rfl, hlt, ?_⟩⟩, fun _ => ⟨g, rfl, hgB, hlt, fun j => by simp [World.frozen?, hgg]⟩⟩
    intro k hk
    have at_ : ∀ j, j < l.length * 2 → w.cell? ⟨g, j, none⟩ = (fcells l)[j]? := by
      intro j hj
      rw [cell_of_row w g j cur 87 (0, 0) hgg, ← htk]
      simp [hj]
    obtain ⟨e1, e2⟩ := fcells_at l k hk
    rw [Nat.zero_add, at_ _ (by omega), at_ _ (by omega)]
    exact ⟨e1, e2⟩
/-- fields in a row that the call owns. -/
def RowF (w : World) (v : Value) (fs : List (List UInt8 × List UInt8)) (W : World) : Prop := W.ownsRow w.heap.size 87 2 v fs.length (fcells fs) ∧ Below w.heap.size w W
theorem RowF.none {w W : World} (hb : Below w.heap.size w W) : RowF w (.slice none 0 0) [] W := ⟨World.ownsRow_nil _ _ _ _, hb⟩
theorem RowF.append {w W w1 : World} {v v' : Value} {fs : List (List UInt8 × List UInt8)} {x y : List UInt8} (h : RowF w v fs W) (h1 : w1.ownsRow w.heap.size 87 2 v' (fs.length + 1) (fcells fs ++ [.string ⟨x.toArray⟩, .string ⟨y.toArray⟩]))
    (hg : (W.alloc (.cells #[.string ⟨x.toArray⟩, .string ⟨y.toArray⟩] 87)).grownBy w1 v.ownBlock) : RowF w v' (fs ++ [(x, y)]) w1 := by
  refine ⟨by rw [fcells_snoc, List.length_append]; exact h1, ?_⟩
  have hb := h.2.alloc h.2.size (.cells #[.string ⟨x.toArray⟩, .string ⟨y.toArray⟩] 87)
  exact hb.trans ((Keeps.of_grown (S := fun k => some k ≠ v.ownBlock) hg fun r e h => h e.symm).below hb.size fun k hk e => by have := (h.1.lt k e.symm).1; omega)
theorem two_newsH (w : World) (x y : Value) (t : TypeId) : ∀ (j : Nat) (u : Value), [x, y][j]? = some u → (w.alloc (.cells #[x, y] t)).cell? ((⟨w.heap.size, 0, none⟩ : Addr).add j) = some u :=
  fun j u h => by
    have e := cell_of_row (w.alloc (.cells #[x, y] t)) w.heap.size j #[x, y] t (0, 0) (World.alloc_heap_new w _)
    have : (Addr.add ⟨w.heap.size, 0, none⟩ j) = ⟨w.heap.size, j, none⟩ := by
      unfold Addr.add
      split <;> first | omega | rfl | simp
    rw [this, e]
    simpa using h
end Go.Proofs.Ytihleddhjmejoaa
namespace Go.Proofs.Ytihleddhjmejoaa
open Go.RowKit Go.Shelf
attribute [local go_sem] Oper.semAt_some

/-- an item as a value. -/
def itv (k : Int) (s : List UInt8) (aF : Option Addr) (nF cF : Nat) (aL : Option Addr) (nL cL : Nat) (e : Int) : Value :=
  .agg #[.int .i64 k, .string ⟨s.toArray⟩, .slice aF nF cF, .slice aL nL cL, .int .i64 e]
/-- .. as cells. -/
def itc (k : Int) (s : List UInt8) (aF : Option Addr) (nF cF : Nat) (aL : Option Addr) (nL cL : Nat) (e : Int) : Obj :=
  .cells #[.int .i64 k, .string ⟨s.toArray⟩, .slice aF nF cF, .slice aL nL cL, .int .i64 e] 59

/-- a value is an item. -/
def ItIn (w : World) (v : Value) (i : It.I) : Prop :=
  ∃ aF cF aL cL, v = itv i.kind i.s aF i.f.length cF aL i.l.length cL i.exp ∧ Fds w aF cF i.f ∧ Wds w aL cL i.l ∧ i.s.length ≤ 9223372036854775807

theorem ItIn.later {w w' : World} {v : Value} {i : It.I} (h : ItIn w v i) (hb : Below w.heap.size w w') : ItIn w' v i := by
  obtain ⟨aF, cF, aL, cL, hv, hF, hL, hs⟩ := h
  exact ⟨aF, cF, aL, cL, hv, hF.later hb, hL.later hb, hs⟩

-- left out: mayCount_any
end Go.Proofs.Ytihleddhjmejoaa
namespace Go.Proofs.Ytihleddhjmejoaa
open Go.RowKit Go.Shelf
attribute [local go_sem] Oper.semAt_some

/-- what a round handed back. -/
theorem round_next {B : Nat} {Dt Pv O O' : Nat → Prop} {W wr A W3 : World} (hO : ∀ k, O k → W.heap.size ≤ k ∧ k < wr.heap.size) (hA : wr.heap.size ≤ A.heap.size) (hW : W.heap.size ≤ wr.heap.size) (hB : B = W.heap.size)
    (hK : Keeps Dt W A) (hk3 : Keeps (RoundS Dt Pv B O) A W3) (hg3 : Grows O O' A W3) : (∀ j, O' j → W.heap.size ≤ j ∧ j < W3.heap.size) ∧ Keeps Dt W W3 := by
  refine ⟨fun j hj => ⟨?_, (hg3 j hj).1⟩, hK.trans (hk3.mono fun j _ h => .inl h)⟩
  rcases (hg3 j hj).2 with h | h
  · exact (hO j h).1
  · omega

-- left out: values_seq
-- left out: names_seq
end Go.Proofs.Ytihleddhjmejoaa
namespace Go.Proofs.Ytihleddhjmejoaa
open Go.RowKit Go.Shelf
attribute [local go_sem] Oper.semAt_some

/-- rises' own variables: the result, the last one, whether there was one. -/
def RInv (w : World) (pre : List (List UInt8)) (W : World) : Prop :=
  Boxed W w.heap.size 4 (.bool false) ∧ Boxed W (w.heap.size + 1) 9 (.string ⟨(It.lastS pre).toArray⟩) ∧ Boxed W (w.heap.size + 2) 4 (.bool (!pre.isEmpty)) ∧ Below w.heap.size w W

theorem RInv.keep {w W W' : World} {pre : List (List UInt8)} (h : RInv w pre W) {S : Nat → Prop} (hk : Keeps S W W') (hS : ∀ k, k < w.heap.size + 3 → S k) : RInv w pre W' := by
  obtain ⟨h1, h2, h3, h4⟩ := h
  exact ⟨hk.heap h1 (hS _ (by omega)), hk.heap h2 (hS _ (by omega)), hk.heap h3 (hS _ (by omega)), h4.trans (hk.below h4.size fun k hk' => hS k (by omega))⟩

-- left out: rises_any
end Go.Proofs.Ytihleddhjmejoaa
namespace Go.Proofs.Ytihleddhjmejoaa
open Go.RowKit Go.Shelf
attribute [local go_sem] Oper.semAt_some

/-- an item's box. -/
def ItBox (w : World) (B : Nat) (k : Int) (s : List UInt8) (aF : Option Addr) (nF cF : Nat) (aL : Option Addr) (nL cL : Nat) (e : Int) : Prop :=
  w.heap[B]? = some (.cells #[.int .i64 k, .string ⟨s.toArray⟩, .slice aF nF cF, .slice aL nL cL, .int .i64 e] 59 (0, 0))

theorem ItBox.lt {w : World} {B : Nat} {k : Int} {s : List UInt8} {aF : Option Addr} {nF cF : Nat} {aL : Option Addr} {nL cL : Nat} {e : Int} (h : ItBox w B k s aF nF cF aL nL cL e) : B < w.heap.size := (Array.getElem?_eq_some_iff.1 h).1
theorem ItBox.at {w : World} {B : Nat} {k : Int} {s : List UInt8} {aF : Option Addr} {nF cF : Nat} {aL : Option Addr} {nL cL : Nat} {e : Int} (h : ItBox w B k s aF nF cF aL nL cL e) :
    w.cell? ⟨B, 0, none⟩ = some (.int .i64 k) ∧ w.cell? ⟨B, 1, none⟩ = some (.string ⟨s.toArray⟩) ∧ w.cell? ⟨B, 2, none⟩ = some (.slice aF nF cF) ∧ w.cell? ⟨B, 3, none⟩ = some (.slice aL nL cL) ∧ w.cell? ⟨B, 4, none⟩ = some (.int .i64 e) := by
  unfold ItBox at h
  simp [World.cell?, h]
theorem ItBox.new (w : World) (k : Int) (s : List UInt8) (aF : Option Addr) (nF cF : Nat) (aL : Option Addr) (nL cL : Nat) (e : Int) : ItBox (w.alloc (itc k s aF nF cF aL nL cL e)) w.heap.size k s aF nF cF aL nL cL e := World.alloc_heap_new w _
theorem ItBox.later {w w' : World} {B : Nat} {k : Int} {s : List UInt8} {aF : Option Addr} {nF cF : Nat} {aL : Option Addr} {nL cL : Nat} {e : Int} (h : ItBox w B k s aF nF cF aL nL cL e) (hb : Below w.heap.size w w') : ItBox w' B k s aF nF cF aL nL cL e := (hb.block _ h.lt).trans h

namespace It
theorem fieldsS_len (f : List (List UInt8 × List UInt8)) : (fieldsS f).length = 2 * f.length := by
  induction f with
  | nil => rfl
  | cons x f ih => simp only [fieldsS, List.flatMap_cons, List.length_append, List.length_cons, List.length_nil] at ih ⊢; omega
theorem fieldsS_take (f : List (List UInt8 × List UInt8)) {k : Nat} (h : k < f.length) : fieldsS (f.take (k + 1)) = fieldsS (f.take k) ++ [(f.getD k ([], [])).1] ++ [(f.getD k ([], [])).2] := by
  rw [take_succ_getD (d := ([], [])) h]
  simp [fieldsS]
theorem fieldsS_pre (f : List (List UInt8 × List UInt8)) (k : Nat) : fieldsS (f.take k) <+: fieldsS f := by
  conv => rhs; rw [← List.take_append_drop k f]
  simp only [fieldsS, List.flatMap_append]
  exact List.prefix_append _ _
end It

-- left out: texts_seq
end Go.Proofs.Ytihleddhjmejoaa
namespace Go.Proofs.Ytihleddhjmejoaa
open Go.RowKit Go.Shelf
attribute [local go_sem] Oper.semAt_some

-- left out: names_mk
-- left out: values_mk
-- left out: rises_names
-- left out: rises_values
-- left out: fits_1
-- left out: fits_2
-- left out: fits_3
-- left out: fits_4
-- left out: fits_5
-- left out: fits_6
-- left out: fits_7
-- left out: fits_8
-- left out: fits_9
-- left out: fits_10
-- left out: fits_11
-- left out: fits_12
-- left out: fits_13
-- left out: fits_14
-- left out: fits_15
-- left out: fits_16
-- left out: fits_17
-- left out: fits_18
-- left out: fits_any
end Go.Proofs.Ytihleddhjmejoaa
namespace Go.Proofs.Ytihleddhjmejoaa
open Go.RowKit Go.Shelf
attribute [local go_sem] Oper.semAt_some

-- left out: texts_mk
/-- May's result. -/
def MRes (w : World) (W : World) : Prop := Boxed W (w.heap.size + 1) 4 (.bool false) ∧ Below w.heap.size w W

theorem MRes.keep {w W W' : World} (h : MRes w W) {S : Nat → Prop} (hk : Keeps S W W') (hS : ∀ k, k < w.heap.size + 2 → S k) : MRes w W' :=
  ⟨hk.heap h.1 (hS _ (by omega)), h.2.trans (hk.below h.2.size fun k hk' => hS k (by omega))⟩
theorem MRes.new (w : World) (o : Obj) : MRes w ((w.alloc o).alloc (.cells #[.bool false] 4)) := by
  have k1 := Boxed.new (w.alloc o) 4 (.bool false)
  rw [World.size_alloc] at k1
  exact ⟨k1, ((Below.refl _ w).alloc (Nat.le_refl _) _).alloc (by simp) _⟩
theorem MRes.set {w W : World} (h : MRes w W) (b : Bool) : Boxed (W.setCell ⟨w.heap.size + 1, 0, none⟩ (.bool b)) (w.heap.size + 1) 4 (.bool b) ∧ Below w.heap.size w (W.setCell ⟨w.heap.size + 1, 0, none⟩ (.bool b)) :=
  ⟨Boxed.set _ h.1, h.2.setCell (p := ⟨w.heap.size + 1, 0, none⟩) (by simp) _⟩

-- left out: may_exp
-- left out: may_fits
-- left out: may_texts
-- left out: may_any
end Go.Proofs.Ytihleddhjmejoaa
