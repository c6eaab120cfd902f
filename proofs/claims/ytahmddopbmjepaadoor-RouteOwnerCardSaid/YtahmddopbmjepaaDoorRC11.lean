/- Items in memory; Alive, Type, mayCount and bare, of the program and of the reference. The contracts of the iterators over words, over names, over all texts of an item. The contract of rises: whether each text that an iterator hands out is greater than the one before it. The contract of the iterator over all texts of an item. The contract of fits: whether an item is valid as far as that hangs neither on its end of life nor on how long its texts are. The contract of item.May. -/
import Derived.Test.YtahmddopbmjepaaDoorRC10
import Derived.Test.YtahmddopbmjepaaDoorRC07
import Derived.Test.YtahmddopbmjepaaDoorRC09
import Derived.RegionIn
import Derived.Sort.Walk0
namespace Go.Proofs.YtahmddopbmjepaaDoor
open Go.RowKit Go.Shelf
attribute [local go_sem] Oper.semAt_some

/-- an item as a value. -/
def itv (k : Int) (s : List UInt8) (aF : Option Addr) (nF cF : Nat) (aL : Option Addr) (nL cL : Nat) (e : Int) : Value :=
  .agg #[.int .i64 k, .string ⟨s.toArray⟩, .slice aF nF cF, .slice aL nL cL, .int .i64 e]
/-- .. as cells. -/
def itc (k : Int) (s : List UInt8) (aF : Option Addr) (nF cF : Nat) (aL : Option Addr) (nL cL : Nat) (e : Int) : Obj :=
  .cells #[.int .i64 k, .string ⟨s.toArray⟩, .slice aF nF cF, .slice aL nL cL, .int .i64 e] 68

/-- a value is an item. -/
def ItIn (w : World) (v : Value) (i : It.I) : Prop :=
  ∃ aF cF aL cL, v = itv i.kind i.s aF i.f.length cF aL i.l.length cL i.exp ∧ Fds w aF cF i.f ∧ Wds w aL cL i.l ∧ i.s.length ≤ 9223372036854775807

theorem ItIn.later {w w' : World} {v : Value} {i : It.I} (h : ItIn w v i) (hb : Below w.heap.size w w') : ItIn w' v i := by
  obtain ⟨aF, cF, aL, cL, hv, hF, hL, hs⟩ := h
  exact ⟨aF, cF, aL, cL, hv, hF.later hb, hL.later hb, hs⟩

-- left out: mayCount_any
end Go.Proofs.YtahmddopbmjepaaDoor
namespace Go.Proofs.YtahmddopbmjepaaDoor
open Go.RowKit Go.Shelf
attribute [local go_sem] Oper.semAt_some

/-- what a round handed back. -/
theorem round_next {B : Nat} {Dt Pv O O' : Nat → Prop} {W wr A W3 : World} (hO : ∀ k, O k → W.heap.size ≤ k ∧ k < wr.heap.size) (hA : wr.heap.size ≤ A.heap.size) (hW : W.heap.size ≤ wr.heap.size) (hB : B = W.heap.size)
    (hK : Keeps Dt W A) (hk3 : Keeps (RoundS Dt Pv B O) A W3) (hg3 : Grows O O' A W3) : (∀ j, O' j → W.heap.size ≤ j ∧ j < W3.heap.size) ∧ Keeps Dt W W3 := by
  refine ⟨fun j hj => ⟨?_, (hg3 j hj).1⟩, hK.trans (hk3.mono fun j _ h => .inl h)⟩
  rcases (hg3 j hj).2 with h | h
  · exact (hO j h).1
  · omega

-- left out: values_seq
-- left out: names_seq
end Go.Proofs.YtahmddopbmjepaaDoor
namespace Go.Proofs.YtahmddopbmjepaaDoor
open Go.RowKit Go.Shelf
attribute [local go_sem] Oper.semAt_some

/-- rises' own variables: the result, the last one, whether there was one. -/
def RInv (w : World) (pre : List (List UInt8)) (W : World) : Prop :=
  Boxed W w.heap.size 4 (.bool false) ∧ Boxed W (w.heap.size + 1) 9 (.string ⟨(It.lastS pre).toArray⟩) ∧ Boxed W (w.heap.size + 2) 4 (.bool (!pre.isEmpty)) ∧ Below w.heap.size w W

theorem RInv.keep {w W W' : World} {pre : List (List UInt8)} (h : RInv w pre W) {S : Nat → Prop} (hk : Keeps S W W') (hS : ∀ k, k < w.heap.size + 3 → S k) : RInv w pre W' := by
  obtain ⟨h1, h2, h3, h4⟩ := h
  exact ⟨hk.heap h1 (hS _ (by omega)), hk.heap h2 (hS _ (by omega)), hk.heap h3 (hS _ (by omega)), h4.trans (hk.below h4.size fun k hk' => hS k (by omega))⟩

-- left out: rises_any
end Go.Proofs.YtahmddopbmjepaaDoor
namespace Go.Proofs.YtahmddopbmjepaaDoor
open Go.RowKit Go.Shelf
attribute [local go_sem] Oper.semAt_some

/-- an item's box. -/
def ItBox (w : World) (B : Nat) (k : Int) (s : List UInt8) (aF : Option Addr) (nF cF : Nat) (aL : Option Addr) (nL cL : Nat) (e : Int) : Prop :=
  w.heap[B]? = some (.cells #[.int .i64 k, .string ⟨s.toArray⟩, .slice aF nF cF, .slice aL nL cL, .int .i64 e] 68 (0, 0))

theorem ItBox.lt {w : World} {B : Nat} {k : Int} {s : List UInt8} {aF : Option Addr} {nF cF : Nat} {aL : Option Addr} {nL cL : Nat} {e : Int} (h : ItBox w B k s aF nF cF aL nL cL e) : B < w.heap.size := (Array.getElem?_eq_some_iff.1 h).1
theorem ItBox.at {w : World} {B : Nat} {k : Int} {s : List UInt8} {aF : Option Addr} {nF cF : Nat} {aL : Option Addr} {nL cL : Nat} {e : Int} (h : ItBox w B k s aF nF cF aL nL cL e) :
    w.cell? ⟨B, 0, none⟩ = some (.int .i64 k) ∧ w.cell? ⟨B, 1, none⟩ = some (.string ⟨s.toArray⟩) ∧ w.cell? ⟨B, 2, none⟩ = some (.slice aF nF cF) ∧ w.cell? ⟨B, 3, none⟩ = some (.slice aL nL cL) ∧ w.cell? ⟨B, 4, none⟩ = some (.int .i64 e) := by
  unfold ItBox at h
  simp [World.cell?, h]
theorem ItBox.new (w : World) (k : Int) (s : List UInt8) (aF : Option Addr) (nF cF : Nat) (aL : Option Addr) (nL cL : Nat) (e : Int) : ItBox (w.alloc (itc k s aF nF cF aL nL cL e)) w.heap.size k s aF nF cF aL nL cL e := World.alloc_heap_new w _
theorem ItBox.later {w w' : World} {B : Nat} {k : Int} {s : List UInt8} {aF : Option Addr} {nF cF : Nat} {aL : Option Addr} {nL cL : Nat} {e : Int} (h : ItBox w B k s aF nF cF aL nL cL e) (hb : Below w.heap.size w w') : ItBox w' B k s aF nF cF aL nL cL e := (hb.block _ h.lt).trans h

namespace It
theorem fieldsS_len (f : List (List UInt8 × List UInt8)) : (fieldsS f).length = 2 * f.length := by
  induction f with
  | nil => rfl
  | cons x f ih => simp only [fieldsS, List.flatMap_cons, List.length_append, List.length_cons, List.length_nil] at ih ⊢; omega
theorem fieldsS_take (f : List (List UInt8 × List UInt8)) {k : Nat} (h : k < f.length) : fieldsS (f.take (k + 1)) = fieldsS (f.take k) ++ [(f.getD k ([], [])).1] ++ [(f.getD k ([], [])).2] := by
  rw [take_succ_getD (d := ([], [])) h]
  simp [fieldsS]
theorem fieldsS_pre (f : List (List UInt8 × List UInt8)) (k : Nat) : fieldsS (f.take k) <+: fieldsS f := by
  conv => rhs; rw [← List.take_append_drop k f]
  simp only [fieldsS, List.flatMap_append]
  exact List.prefix_append _ _
end It

-- left out: texts_seq
end Go.Proofs.YtahmddopbmjepaaDoor
namespace Go.Proofs.YtahmddopbmjepaaDoor
open Go.RowKit Go.Shelf
attribute [local go_sem] Oper.semAt_some

-- left out: names_mk
-- left out: values_mk
-- left out: rises_names
-- left out: rises_values
-- left out: fits_1
-- left out: fits_2
-- left out: fits_3
-- left out: fits_4
-- left out: fits_5
-- left out: fits_6
-- left out: fits_7
-- left out: fits_8
-- left out: fits_9
-- left out: fits_10
-- left out: fits_11
-- left out: fits_12
-- left out: fits_13
-- left out: fits_14
-- left out: fits_15
-- left out: fits_16
-- left out: fits_17
-- left out: fits_18
-- left out: fits_any
end Go.Proofs.YtahmddopbmjepaaDoor
namespace Go.Proofs.YtahmddopbmjepaaDoor
open Go.RowKit Go.Shelf
attribute [local go_sem] Oper.semAt_some

-- left out: texts_mk
/-- May's result. -/
def MRes (w : World) (W : World) : Prop := Boxed W (w.heap.size + 1) 4 (.bool false) ∧ Below w.heap.size w W

theorem MRes.keep {w W W' : World} (h : MRes w W) {S : Nat → Prop} (hk : Keeps S W W') (hS : ∀ k, k < w.heap.size + 2 → S k) : MRes w W' :=
  ⟨hk.heap h.1 (hS _ (by omega)), h.2.trans (hk.below h.2.size fun k hk' => hS k (by omega))⟩
theorem MRes.new (w : World) (o : Obj) : MRes w ((w.alloc o).alloc (.cells #[.bool false] 4)) := by
  have k1 := Boxed.new (w.alloc o) 4 (.bool false)
  rw [World.size_alloc] at k1
  exact ⟨k1, ((Below.refl _ w).alloc (Nat.le_refl _) _).alloc (by simp) _⟩
theorem MRes.set {w W : World} (h : MRes w W) (b : Bool) : Boxed (W.setCell ⟨w.heap.size + 1, 0, none⟩ (.bool b)) (w.heap.size + 1) 4 (.bool b) ∧ Below w.heap.size w (W.setCell ⟨w.heap.size + 1, 0, none⟩ (.bool b)) :=
  ⟨Boxed.set _ h.1, h.2.setCell (p := ⟨w.heap.size + 1, 0, none⟩) (by simp) _⟩

-- left out: may_exp
-- left out: may_fits
-- left out: may_texts
-- left out: may_any
end Go.Proofs.YtahmddopbmjepaaDoor
