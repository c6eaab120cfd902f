/- Plain facts of the law RouteOwner (14.1, 14.3); a node in a block that is written anew, a part at a time. The box of what the reference got: an item, or none. The contract of the reference's Raw (11.1). Plain facts of the law RouteCross (14.1). -/
import Derived.Test.YtahmddopbmjepaaDoorRD23
import Derived.Laws.Tables
import Derived.Test.YtahmddopbmjepaaDoorRD09
import Derived.Maps.OwnIn
import Derived.Test.YtahmddopbmjepaaDoorRD10
import Derived.Test.YtahmddopbmjepaaDoorRD15
import Derived.Test.YtahmddopbmjepaaDoorRD11
namespace Go.Proofs.YtahmddopbmjepaaDoor
open Go.RowKit Go.Shelf
attribute [local go_sem] Oper.semAt_some
set_option linter.unusedVariables false
set_option linter.unusedSimpArgs false

namespace Rt
def ownC (i : Int) : Ow.C := ⟨0, 16383, i, 1⟩
theorem ownC_vl {i : Int} (h0 : 0 ≤ i) (h1 : i < 8) : Ow.VL [ownC i] := by
  show Ow.okC _
  unfold Ow.okC ownC
  simp only
  omega
theorem own_at (i : Int) (x : Nat) (hx : x < 16384) : Ow.own [ownC i] (x : Int) = some (i, 1) := by
  show (if Ow.inC (x : Int) (ownC i) = true then some (i, 1) else none) = _
  rw [if_pos]
  rw [Ow.inC_iff]
  unfold ownC
  simp only
  omega
theorem one_one (K : Bs) : one [K] = (slotOf K : Int) := rfl
theorem pl1 (i : Int) (has : Bs → Bool) (K : Bs) (a : Bool) : decideS ⟨i, -1, [ownC i], has, []⟩ [K] a = [] := by
  unfold decideS
  rw [if_neg (by simp), one_one, if_neg (by omega), own_at i _ (slotOf_lt K)]
  simp only
  rw [if_pos (by simp)]
  rfl
theorem pl2 (i j : Int) (has : Bs → Bool) (K : Bs) (h : i ≠ j) (a : Bool) : decideS ⟨j, -1, [ownC i], has, []⟩ [K] a = if a then [] else redir mvd (slotOf K : Int) i := by
  unfold decideS
  rw [if_neg (by simp), one_one, if_neg (by omega), own_at i _ (slotOf_lt K)]
  simp only
  rw [if_neg (fun e => h e.2)]
  cases a
  · rw [if_neg (fun e => by cases e.2)]; rfl
  · rw [if_pos (by simp)]; rfl
theorem pl3 (i j m : Int) (has : Bs → Bool) (K : Bs) (h : 0 ≤ m) (a : Bool) : decideS ⟨j, m, [ownC i], has, []⟩ [K] a = redir mvd (slotOf K : Int) i := by
  unfold decideS
  rw [if_neg (by simp), one_one, if_neg (by omega), own_at i _ (slotOf_lt K)]
  simp only
  rw [if_neg (fun e => by have := e.1; omega), if_neg (fun e => by have := e.1; omega)]
theorem pl4 (i : Int) (has : Bs → Bool) (m : Mv) (ks : List Bs) (x : Nat) (hx : x < 16384) (hk : ks ≠ []) (h1 : one ks = (x : Int)) (hm : m.s = (x : Int)) (a : Bool) : decideS ⟨i, -1, [ownC i], has, [m]⟩ ks a = movingS has m ks := by
  unfold decideS
  rw [if_neg hk, h1, if_neg (by omega), own_at i x hx]
  simp only
  rw [if_pos (by simp)]
  unfold ownerS
  rw [List.find?_cons_of_pos (by simpa using hm)]
theorem pl5 (d : Nd) (a : Bool) : decideS d [] a = [] := rfl
theorem one_two {K L : Bs} (h : slotOf L = slotOf K) : one [K, L] = (slotOf K : Int) := by
  show (if ([L].all fun x => decide (slotOf x = slotOf K)) = true then (slotOf K : Int) else -1) = _
  rw [if_pos]
  simpa using h
/-- the other key: of the same tag. -/
def oth (K : Bs) : Bs := 123 :: (K ++ [125, 120])
theorem oth_ne (K : Bs) : oth K ≠ K := fun e => by
  have := congrArg List.length e
  unfold oth at this
  simp at this
  omega
theorem mv_no1 (m : Mv) (hn : m.n = 0) (K : Bs) : movingS (fun _ => false) m [K] = redir ask m.s m.t := by
  unfold movingS
  rw [if_neg (by simp [locked, hn]), if_neg (by simp), if_pos (by simp)]
theorem mv_no2 (m : Mv) (hn : m.n = 0) (K L : Bs) : movingS (fun _ => false) m [K, L] = redir ask m.s m.t := by
  unfold movingS
  rw [if_neg (by simp [locked, hn]), if_neg (by simp), if_pos (by simp)]
theorem mv_has1 (has : Bs → Bool) (m : Mv) (hn : m.n = 0) (K : Bs) (h : has K = true) : movingS has m [K] = [] := by
  unfold movingS
  rw [if_neg (by simp [locked, hn]), if_pos (by simp [h])]
theorem mv_has2 (has : Bs → Bool) (m : Mv) (K L : Bs) (h : has K = true) (h2 : has L = false) : movingS has m [K, L] = again := by
  unfold movingS
  split
  · rfl
  · rw [if_neg (by simp [h, h2]), if_neg (by simp [h, h2])]
theorem mv_lock (has : Bs → Bool) (m : Mv) (K : Bs) (r : List Bs) (hn : 0 < m.n) (hk : K = m.k) : movingS has m (K :: r) = again := by
  unfold movingS
  rw [if_pos]
  simp [locked, hn, hk]
end Rt

theorem NdBox.ofRow {w : World} {B : Nat} {old : Array Value} {n : NV} (h : w.heap[B]? = some (.cells old 36 (0, 0))) : NdBox (w.setRow B n.cells) B n := by
  unfold NdBox
  simp [World.setRow, Array.getElem?_modify, h]
theorem below_setRow {n B : Nat} {w W : World} (h : Below n w W) (hB : n ≤ B) (c : Array Value) : Below n w (W.setRow B c) :=
  ⟨h.os, h.tape, h.output, by simpa [World.setRow] using h.size, fun k hk => by
    rw [← h.block k hk]
    have : B ≠ k := by omega
    simp [World.setRow, Array.getElem?_modify, this]⟩
theorem NdBox.set1 {w : World} {B : Nat} {n : NV} (h : NdBox w B n) (x : Int) : NdBox (w.setCell ⟨B, 1, none⟩ (.int .i64 x)) B { n with id := x } := by
  unfold NdBox NV.cells at h ⊢
  simp [World.setCell, Array.getElem?_modify, h]
theorem NdBox.set2 {w : World} {B : Nat} {n : NV} (h : NdBox w B n) (x : Int) : NdBox (w.setCell ⟨B, 2, none⟩ (.int .i64 x)) B { n with ms := x } := by
  unfold NdBox NV.cells at h ⊢
  simp [World.setCell, Array.getElem?_modify, h]
theorem NdBox.set6 {w : World} {B : Nat} {n : NV} (h : NdBox w B n) (a : Option Addr) (l c : Nat) : NdBox (w.setCell ⟨B, 6, none⟩ (.slice a l c)) B { n with db := ⟨a, l, c⟩ } := by
  unfold NdBox NV.cells at h ⊢
  simp [World.setCell, Array.getElem?_modify, h]
theorem NdBox.set7 {w : World} {B : Nat} {n : NV} (h : NdBox w B n) (a : Option Addr) (l c : Nat) : NdBox (w.setCell ⟨B, 7, none⟩ (.slice a l c)) B { n with mv := ⟨a, l, c⟩ } := by
  unfold NdBox NV.cells at h ⊢
  simp [World.setCell, Array.getElem?_modify, h]
theorem NdBox.free {w : World} {B : Nat} {n : NV} (h : NdBox w B n) (j : Nat) : w.frozen? ⟨B, j, none⟩ = false := by
  unfold NdBox at h
  simp [World.frozen?, h]
theorem NdBox.lt {w : World} {B : Nat} {n : NV} (h : NdBox w B n) : B < w.heap.size := (Array.getElem?_eq_some_iff.1 h).1
theorem NdBox.far {w : World} {B g : Nat} {n : NV} (h : NdBox w B n) (hg : g ≠ B) (j : Nat) (v : Value) : NdBox (w.setCell ⟨g, j, none⟩ v) B n := by
  unfold NdBox at h ⊢
  simp [World.setCell, Array.getElem?_modify, h, hg]

theorem NV.one (n : NV) : n.cells.all (·.oneCell') = true := by
  simp [NV.cells, Value.oneCell']

/-- a load of a node behind a guard that holds. -/
theorem wpList_load_rowG {P : Program} {ops : Array Oper} {rest : List Oper} {o : Oper} {a : Act} {w : World} {Q : Exit → Act → World → Prop} (hw : Region.wanted o (yielded ops a.tmps) = true) (ty : TypeId) (x : Operand) (ho : o.op = .load ty x)
    (g : Nat) (hx : a.eval x = .pointer (some ⟨g, 0, none⟩)) (t : TypeId) (cs : Array Value) (fr : Nat × Nat) (d : TypeDesc) (hg : w.heap[g]? = some (.cells cs t fr))
    (hu : P.underlying ty = some d) (hd : (match d with | .struct _ | .array _ _ => true | _ => false) = true) (hi : (P.info? ty).map (·.size) = some cs.size)
    (h : wpList P ops Q rest (a.put o.dst (.agg cs)) w) : wpList P ops Q (o :: rest) a w :=
  wpList_step fun K hK => by simp only [hw, if_true]; exact wp_load_row ty x ho g hx t cs fr d hg hu hd hi (hK _ _ h)
theorem cls_at {W : World} {g : Nat} {i : Int} (bi : 0 ≤ i ∧ i < 4) (h : W.heap[g]? = some (.cells #[.int .i64 0, .int .i64 16383, .int .i64 i, .int .i64 1] 64 (0, 0))) : Cls W (some ⟨g, 0, none⟩) 1 [Rt.ownC i] := by
  refine ⟨by simp, by decide, ?_, .inr ⟨g, 0, rfl, (Array.getElem?_eq_some_iff.1 h).1, fun k hk => ?_⟩⟩
  · intro c hc
    rw [List.mem_singleton] at hc
    subst hc
    unfold Ow.FitC Rt.ownC
    simp only
    omega
  · obtain rfl : k = 0 := by simpa using hk
    refine ⟨?_, ?_, ?_, ?_⟩ <;> simp [World.cell?, h, Rt.ownC]
theorem mvs_at {W : World} {g : Nat} {m : Rt.Mv} (hm : m.Ok) (h : W.heap[g]? = some (.cells #[.int .i64 m.s, .int .i64 m.t, .int .i64 m.n, .string ⟨m.k.toArray⟩] 61 (0, 0))) : Mvs W (some ⟨g, 0, none⟩) 1 [m] := by
  refine ⟨⟨by simp, by decide, .inr ⟨g, 0, rfl, (Array.getElem?_eq_some_iff.1 h).1, fun k hk j hj => ?_⟩⟩, by simpa using hm⟩
  obtain rfl : k = 0 := by simpa using hk
  match j, hj with
  | 0, _ => simp [World.cell?, h, Rt.Mv.cs]
  | 1, _ => simp [World.cell?, h, Rt.Mv.cs]
  | 2, _ => simp [World.cell?, h, Rt.Mv.cs]
  | 3, _ => simp [World.cell?, h, Rt.Mv.cs]
/-- a pair with an empty text. -/
def pairK (K : List UInt8) : Lp := ⟨K, ⟨1, [], none, [], 0, none, [], 0, 0⟩⟩
theorem prs_at {W : World} {g : Nat} {K : List UInt8} (hK : K.length ≤ 9223372036854775807) (h : W.heap[g]? = some (.cells #[.string ⟨K.toArray⟩, .int .i64 1, .string ⟨#[]⟩, .slice none 0 0, .slice none 0 0, .int .i64 0] 70 (0, 0))) : Prs W (some ⟨g, 0, none⟩) 1 [pairK K] := by
  refine ⟨⟨by simp, by decide, .inr ⟨g, 0, rfl, (Array.getElem?_eq_some_iff.1 h).1, fun k hk j hj => ?_⟩⟩, ?_⟩
  · obtain rfl : k = 0 := by simpa using hk
    match j, hj with
    | 0, _ => simp [World.cell?, h, Lp.cs, Li.cs, pairK]
    | 1, _ => simp [World.cell?, h, Lp.cs, Li.cs, pairK]
    | 2, _ => simp [World.cell?, h, Lp.cs, Li.cs, pairK]
    | 3, _ => simp [World.cell?, h, Lp.cs, Li.cs, pairK]
    | 4, _ => simp [World.cell?, h, Lp.cs, Li.cs, pairK]
    | 5, _ => simp [World.cell?, h, Lp.cs, Li.cs, pairK]
  · intro p hp
    rw [List.mem_singleton] at hp
    subst hp
    exact ⟨hK, by simp [pairK], fds_nil W, wds_nil W, fun _ => rfl, fun _ => rfl⟩
theorem asc_one (p : Lp) : AscL [p] := fun i j hij hj => by simp at hj; omega
theorem sm_one {K : List UInt8} (hK : K.length ≤ 40) : ∀ p ∈ [pairK K], p.p.Sm := by
  intro p hp
  rw [List.mem_singleton] at hp
  subst hp
  refine ⟨by show K.length ≤ _; omega, ?_⟩
  exact ⟨by show ([] : List UInt8).length ≤ _; decide, by show ([] : List (List UInt8 × List UInt8)).length ≤ _; decide, by show ([] : List (List UInt8)).length ≤ _; decide, fun p hp => by simp [pairK, Lp.p, Li.i] at hp, fun t ht => by simp [pairK, Lp.p, Li.i] at ht⟩
theorem raw_one (K L : List UInt8) : (rawL [pairK K] L).isSome = decide (K = L) := by
  unfold rawL
  by_cases h : K = L
  · rw [List.find?_cons_of_pos (by show decide (K = L) = true; exact decide_eq_true h)]; simp [h]
  · rw [List.find?_cons_of_neg (by show ¬ decide (K = L) = true; simpa using h)]; simp [h]
theorem heap_far {W : World} {g b : Nat} {o : Obj} (h : W.heap[b]? = some o) (hg : g ≠ b) (j : Nat) (v : Value) : (W.setCell ⟨g, j, none⟩ v).heap[b]? = some o := by
  simp [World.setCell, Array.getElem?_modify, h, hg]
theorem heap_new_far {W : World} {b : Nat} {o o2 : Obj} (h : W.heap[b]? = some o) : (W.alloc o2).heap[b]? = some o := by
  have hlt := (Array.getElem?_eq_some_iff.1 h).1
  rw [← h]
  exact ((Below.refl W.heap.size W).alloc (Nat.le_refl _) o2).block b hlt
theorem mv_set2 {W : World} {g : Nat} {s t n : Int} {k : List UInt8} (h : MvBox W g s t n k) (x : Int) : MvBox (W.setCell ⟨g, 2, none⟩ (.int .i64 x)) g s t x k := by
  unfold MvBox at h ⊢
  simp [World.setCell, Array.getElem?_modify, h]
theorem mv_set3 {W : World} {g : Nat} {s t n : Int} {k : List UInt8} (h : MvBox W g s t n k) (x : List UInt8) : MvBox (W.setCell ⟨g, 3, none⟩ (.string ⟨x.toArray⟩)) g s t n x := by
  unfold MvBox at h ⊢
  simp [World.setCell, Array.getElem?_modify, h]
theorem mv_free {W : World} {g : Nat} {s t n : Int} {k : List UInt8} (h : MvBox W g s t n k) (j : Nat) : W.frozen? ⟨g, j, none⟩ = false := by
  unfold MvBox at h
  simp [World.frozen?, h]
theorem wds_at {W : World} {g : Nat} {K : List UInt8} (hK : K.length ≤ 9223372036854775807) (h : W.heap[g]? = some (.cells #[.string ⟨K.toArray⟩] 9 (0, 0))) : Wds W (some ⟨g, 0, none⟩) 1 [K] := by
  refine ⟨by simp, by decide, by simpa using hK, .inr ⟨_, 0, rfl, (Array.getElem?_eq_some_iff.1 h).1, fun j hj => ?_⟩⟩
  obtain rfl : j = 0 := by simpa using hj
  simp [World.cell?, h]
theorem idx_one (b o c : Nat) (W : World) : (Instr.indexAt 37 (.slice (some ⟨b, o, none⟩) 2 c) (.int .i64 1)).run Tryd.prog W = .ok (.pointer (some ⟨b, o + 1, none⟩)) W := by
  go_simp
end Go.Proofs.YtahmddopbmjepaaDoor
namespace Go.Proofs.YtahmddopbmjepaaDoor
open Go.RowKit Go.Shelf
set_option linter.unusedVariables false
set_option linter.unusedSimpArgs false

/-- the result's box. -/
def Gb (W : World) (B : Nat) (k : Int) (s : List UInt8) (aF : Option Addr) (nF cF : Nat) (aL : Option Addr) (nL cL : Nat) (x : Int) (b : Bool) : Prop :=
  W.heap[B]? = some (.cells #[.int .i64 k, .string ⟨s.toArray⟩, .slice aF nF cF, .slice aL nL cL, .int .i64 x, .bool b] 75 (0, 0))
def stGb (w : World) (B : Nat) (k : Int) (s : List UInt8) (aF : Option Addr) (nF cF : Nat) (aL : Option Addr) (nL cL : Nat) (x : Int) (b : Bool) : World :=
  (((((w.setCell ⟨B, 0, none⟩ (.int .i64 k)).setCell ⟨B, 1, none⟩ (.string ⟨s.toArray⟩)).setCell ⟨B, 2, none⟩ (.slice aF nF cF)).setCell ⟨B, 3, none⟩ (.slice aL nL cL)).setCell ⟨B, 4, none⟩ (.int .i64 x)).setCell ⟨B, 5, none⟩ (.bool b)
theorem Gb.lt {W : World} {B : Nat} {k : Int} {s : List UInt8} {aF : Option Addr} {nF cF : Nat} {aL : Option Addr} {nL cL : Nat} {x : Int} {b : Bool} (h : Gb W B k s aF nF cF aL nL cL x b) : B < W.heap.size := (Array.getElem?_eq_some_iff.1 h).1
theorem Gb.at {W : World} {B : Nat} {k : Int} {s : List UInt8} {aF : Option Addr} {nF cF : Nat} {aL : Option Addr} {nL cL : Nat} {x : Int} {b : Bool} (h : Gb W B k s aF nF cF aL nL cL x b) :
    (W.cell? ⟨B, 0, none⟩ = some (.int .i64 k) ∧ W.cell? ⟨B, 1, none⟩ = some (.string ⟨s.toArray⟩) ∧ W.cell? ⟨B, 2, none⟩ = some (.slice aF nF cF) ∧ W.cell? ⟨B, 3, none⟩ = some (.slice aL nL cL) ∧ W.cell? ⟨B, 4, none⟩ = some (.int .i64 x) ∧ W.cell? ⟨B, 5, none⟩ = some (.bool b)) ∧
    (W.frozen? ⟨B, 0, none⟩ = false ∧ W.frozen? ⟨B, 1, none⟩ = false ∧ W.frozen? ⟨B, 2, none⟩ = false ∧ W.frozen? ⟨B, 3, none⟩ = false ∧ W.frozen? ⟨B, 4, none⟩ = false ∧ W.frozen? ⟨B, 5, none⟩ = false) := by
  unfold Gb at h
  simp [World.cell?, World.frozen?, h]
theorem Gb.store {W : World} {B : Nat} {k0 : Int} {s0 : List UInt8} {a0 : Option Addr} {n0 c0 : Nat} {a1 : Option Addr} {n1 c1 : Nat} {x0 : Int} {b0 : Bool} (h : Gb W B k0 s0 a0 n0 c0 a1 n1 c1 x0 b0) (k : Int) (s : List UInt8) (aF : Option Addr) (nF cF : Nat) (aL : Option Addr) (nL cL : Nat) (x : Int) (b : Bool) :
    Gb (stGb W B k s aF nF cF aL nL cL x b) B k s aF nF cF aL nL cL x b := by
  unfold Gb at h ⊢
  simp [stGb, World.setCell, Array.getElem?_modify, h]
theorem Keeps.stGb {S : Nat → Prop} {A W : World} (h : Keeps S A W) {B : Nat} (hB : A.heap.size ≤ B ∨ ¬ S B) (k : Int) (s : List UInt8) (aF : Option Addr) (nF cF : Nat) (aL : Option Addr) (nL cL : Nat) (x : Int) (b : Bool) : Keeps S A (stGb W B k s aF nF cF aL nL cL x b) :=
  (((((h.setCell (p := ⟨B, 0, none⟩) hB _).setCell (p := ⟨B, 1, none⟩) hB _).setCell (p := ⟨B, 2, none⟩) hB _).setCell (p := ⟨B, 3, none⟩) hB _).setCell (p := ⟨B, 4, none⟩) hB _).setCell (p := ⟨B, 5, none⟩) hB _
theorem below_stGb {w W : World} {B : Nat} (h : Below w.heap.size w W) (hB : w.heap.size ≤ B) (k : Int) (s : List UInt8) (aF : Option Addr) (nF cF : Nat) (aL : Option Addr) (nL cL : Nat) (x : Int) (b : Bool) : Below w.heap.size w (stGb W B k s aF nF cF aL nL cL x b) :=
  (((((h.setCell (p := ⟨B, 0, none⟩) hB _).setCell (p := ⟨B, 1, none⟩) hB _).setCell (p := ⟨B, 2, none⟩) hB _).setCell (p := ⟨B, 3, none⟩) hB _).setCell (p := ⟨B, 4, none⟩) hB _).setCell (p := ⟨B, 5, none⟩) hB _
theorem loadGb {W : World} {B : Nat} {k : Int} {s : List UInt8} {aF : Option Addr} {nF cF : Nat} {aL : Option Addr} {nL cL : Nat} {x : Int} {b : Bool} (h : Gb W B k s aF nF cF aL nL cL x b) :
    (loadVar 75 ⟨B, 0, none⟩).run Tryd.prog W = .ok (.agg #[.int .i64 k, .string ⟨s.toArray⟩, .slice aF nF cF, .slice aL nL cL, .int .i64 x, .bool b]) W := by
  obtain ⟨⟨h0, h1, h2, h3, h4, h5⟩, -⟩ := h.at
  simp [loadVar, go_sem, h0, h1, h2, h3, h4, h5]
/-- zero, and what was there. -/
def Gz (w W : World) : Prop := Gb W w.heap.size 0 [] none 0 0 none 0 0 0 false ∧ Below w.heap.size w W
theorem Gz.later {w W W' : World} (h : Gz w W) (hb : Below W.heap.size W W') : Gz w W' := ⟨(hb.block _ h.1.lt).trans h.1, h.2.trans (hb.mono h.2.size)⟩
theorem Gz.new (w : World) : Gz w (w.alloc (.cells #[.int .i64 0, .string ⟨#[]⟩, .slice none 0 0, .slice none 0 0, .int .i64 0, .bool false] 75)) := ⟨World.alloc_heap_new w _, (Below.refl _ w).alloc (Nat.le_refl _) _⟩
end Go.Proofs.YtahmddopbmjepaaDoor
namespace Go.Proofs.YtahmddopbmjepaaDoor
open Go.RowKit Go.Shelf
attribute [local go_sem] Oper.semAt_some
set_option linter.unusedVariables false
set_option linter.unusedSimpArgs false

set_option maxRecDepth 100000 in
set_option maxHeartbeats 4000000 in
theorem raw_any (a : Option Addr) (cap : Nat) (ps : List Lp) (key : List UInt8) (w : World) (hP : Prs w a cap ps) (hn : ps.length ≤ 1000000) :
    Calls Tryd.prog 23 #[.slice a ps.length cap, .string ⟨key.toArray⟩] w fun e W => e = .returned (gotv (rawL ps key)) ∧ Below w.heap.size w W := by
  have HP := Lib.hid hP
  have HZ := Lib.hid (Gz.new w)
  have hnI : (ps.length : Int) ≤ 1000000 := by omega
  clear hP
  go_enter Tryd.func23, Tryd.ntmps23
  go_wp2
  go_loopw [5] (fun i wr => ∃ n : Nat, n ≤ ps.length ∧ i = .int .i64 n ∧ Hid (∀ j, j < n → (ps.getD j Lp.zero).key ≠ key) ∧ Hid (Gz w wr)) (fun i _ => ps.length - (intOf i).toNat)
  case atStart => exact ⟨0, Nat.zero_le _, rfl, Lib.hid fun j h => by omega, HZ⟩
  case round =>
    obtain ⟨n, hn', rfl, HJ, HG⟩ := hrel
    by_cases hlt : n < ps.length
    · have hP1 := HP.out.later HG.out.2
      obtain ⟨b, off, rfl, hb, hc⟩ := hP1.get (by omega)
      have hck := hc n hlt
      have HH := Lib.hid (rawL_hit ps key n hlt HJ.out)
      have HN := Lib.hid (show ¬ (ps.getD n Lp.zero).key = key → ∀ j, j < n + 1 → (ps.getD j Lp.zero).key ≠ key from fun h j hj => by
        rcases Nat.lt_or_ge j n with h' | h'
        · exact HJ.out j h'
        · rw [show j = n by omega]; exact h)
      clear hc
      obtain ⟨⟨key0, k, s, aF, fs, cF, aL, ws, cL, x⟩, hq⟩ : ∃ q, ps.getD n Lp.zero = q := ⟨_, rfl⟩
      rw [hq] at hck HH HN
      clear hq
      obtain ⟨q0, q1, q2, q3, q4, q5⟩ := hck
      simp only [] at q0 q1 q2 q3 q4 q5
      obtain ⟨⟨c0, c1, c2, c3, c4, c5⟩, z0, z1, z2, z3, z4, z5⟩ := HG.out.1.at
      have k0 : (0 : Int) ≤ (n : Int) := by omega
      have k1 : (n : Int) < (ps.length : Int) := by omega
      by_cases he : key0 = key
      · have HE := Lib.hid (HH.out he)
        have he1 : (key0 == key) = true := by simp [he]
        have he2 : (key0 != key) = false := by simp [he]
        clear he HN HH
        have HS := Lib.hid (And.intro (HG.out.1.store k s aF fs.length cF aL ws.length cL x true) (below_stGb HG.out.2 (Nat.le_refl _) k s aF fs.length cF aL ws.length cL x true))
        go_wp2
        exact bodyPost_ret (results_cell rfl rfl (loadGb HS.out.1)) rfl ⟨by rw [HE.out]; rfl, HS.out.2⟩
      · have HE := Lib.hid (HN.out he)
        have he1 : (key0 == key) = false := by simp [he]
        have he2 : (key0 != key) = true := by simp [he]
        clear he HN HH c0 c1 c2 c3 c4 c5
        go_wp2
        go_roundw
        case rel => exact ⟨n + 1, by omega, by go_num, HE, HG⟩
        case measure => simp [intOf]; omega
    · obtain rfl : n = ps.length := by omega
      have HE := Lib.hid (rawL_miss ps key HJ.out)
      obtain ⟨⟨c0, c1, c2, c3, c4, c5⟩, z0, z1, z2, z3, z4, z5⟩ := HG.out.1.at
      have k1 : ¬ (ps.length : Int) < (ps.length : Int) := by omega
      have HS := Lib.hid (And.intro (HG.out.1.store 0 [] none 0 0 none 0 0 0 false) (below_stGb HG.out.2 (Nat.le_refl _) 0 [] none 0 0 none 0 0 0 false))
      go_wp2
      exact bodyPost_ret (results_cell rfl rfl (loadGb HS.out.1)) rfl ⟨by rw [HE.out]; rfl, HS.out.2⟩

end Go.Proofs.YtahmddopbmjepaaDoor
namespace Go.Proofs.YtahmddopbmjepaaDoor
open Go.RowKit Go.Shelf
attribute [local go_sem] Oper.semAt_some
set_option linter.unusedVariables false
set_option linter.unusedSimpArgs false

namespace Rt
def c7 (s : Int) : Ow.C := ⟨s, s, 7, 4⟩
theorem c7_vl {s : Nat} (h : s < 16384) : Ow.VL [c7 (s : Int)] := by
  show Ow.okC _
  unfold Ow.okC c7
  simp only
  omega
theorem own_c7 (s : Int) : Ow.own [c7 s] s = some (7, 4) := by
  show (if Ow.inC s (c7 s) = true then some (7, 4) else none) = _
  rw [if_pos]
  rw [Ow.inC_iff]
  unfold c7
  simp
theorem pc1 (d : Nd) {a b : Bs} (h : slotOf a ≠ slotOf b) (ask : Bool) : decideS d [a, b] ask = cross := by
  unfold decideS
  have e : one [a, b] = -1 := one_not (j := 1) (by simp) (by simpa using fun e => h e.symm)
  rw [if_neg (by simp), e, if_pos (by decide)]
theorem pc2 (id ms : Int) (has : Bs → Bool) (b : Bs) (ask : Bool) : decideS ⟨id, ms, [], has, []⟩ [b] ask = down := by
  unfold decideS
  rw [if_neg (by simp), one_one, if_neg (by omega)]
  rfl
theorem pc3 (id ms : Int) (has : Bs → Bool) (mv : List Mv) {a b : Bs} {s : Nat} (h : slotOf b = slotOf a) (hs : slotOf a = s) (hn : ¬ (ms = -1 ∧ (7 : Int) = id)) (ask : Bool) : decideS ⟨id, ms, [c7 (s : Int)], has, mv⟩ [a, b] ask = if ms = -1 ∧ ask = true then [] else redir mvd (s : Int) 7 := by
  unfold decideS
  rw [if_neg (by simp), one_two h, hs, if_neg (by omega), own_c7]
  simp only
  rw [if_neg hn]
theorem pc4 (has : Bs → Bool) {a b : Bs} {s : Nat} (h : slotOf b = slotOf a) (hs : slotOf a = s) (ask : Bool) : decideS ⟨7, -1, [c7 (s : Int)], has, [⟨(s : Int), 1, 0, []⟩]⟩ [a, b] ask = if has a = true ∧ has b = true then [] else if has a = false ∧ has b = false then redir Rt.ask (s : Int) 1 else again := by
  unfold decideS
  rw [if_neg (by simp), one_two h, hs, if_neg (by omega), own_c7]
  simp only
  rw [if_pos (by simp)]
  unfold ownerS
  rw [List.find?_cons_of_pos (by simp)]
  show movingS has ⟨(s : Int), 1, 0, []⟩ [a, b] = _
  unfold movingS
  rw [if_neg (by simp [locked])]
  cases h1 : has a <;> cases h2 : has b <;> simp [h1, h2]
theorem read_to {s : Nat} (hs : s < 16384) {n : Nat} (hn : n < 8) {W W' : Bs} (hW : W = mvd ∨ W = ask) {x y : Int} (h : ReadOf (redir W (s : Int) (n : Int)) W' x y) : W' = W ∧ x = s ∧ y = n := by
  obtain ⟨h1, h2, h3⟩ := h.unique (.inl ⟨s, n, rfl, rfl, hW, hs, hn, rfl⟩)
  exact ⟨h1, h2, h3⟩
end Rt

theorem cls_one {W : World} {g : Nat} {c : Ow.C} (hf : Ow.FitC c) (h : W.heap[g]? = some (.cells #[.int .i64 c.f, .int .i64 c.t, .int .i64 c.n, .int .i64 c.e] 64 (0, 0))) : Cls W (some ⟨g, 0, none⟩) 1 [c] := by
  refine ⟨by simp, by decide, ?_, .inr ⟨g, 0, rfl, (Array.getElem?_eq_some_iff.1 h).1, fun k hk => ?_⟩⟩
  · intro x hx
    rw [List.mem_singleton] at hx
    subst hx
    exact hf
  · obtain rfl : k = 0 := by simpa using hk
    refine ⟨?_, ?_, ?_, ?_⟩ <;> simp [World.cell?, h]
theorem wds_two {W : World} {g : Nat} {a b : List UInt8} (ha : a.length ≤ 9223372036854775807) (hb : b.length ≤ 9223372036854775807) (h : W.heap[g]? = some (.cells #[.string ⟨a.toArray⟩, .string ⟨b.toArray⟩] 9 (0, 0))) : Wds W (some ⟨g, 0, none⟩) 2 [a, b] := by
  refine ⟨by simp, by decide, by intro s hs; simp only [List.mem_cons, List.mem_nil_iff, or_false] at hs; rcases hs with rfl | rfl <;> assumption, .inr ⟨_, 0, rfl, (Array.getElem?_eq_some_iff.1 h).1, fun j hj => ?_⟩⟩
  match j, hj with
  | 0, _ => simp [World.cell?, h]
  | 1, _ => simp [World.cell?, h]
theorem NdBox.set5 {w : World} {B : Nat} {n : NV} (h : NdBox w B n) (a : Option Addr) (l c : Nat) : NdBox (w.setCell ⟨B, 5, none⟩ (.slice a l c)) B { n with cl := ⟨a, l, c⟩ } := by
  unfold NdBox NV.cells at h ⊢
  simp [World.setCell, Array.getElem?_modify, h]
end Go.Proofs.YtahmddopbmjepaaDoor
