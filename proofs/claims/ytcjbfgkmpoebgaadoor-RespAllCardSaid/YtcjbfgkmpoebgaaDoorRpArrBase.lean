/- The row of replies that an array is read into. -/
import Derived.Test.YtcjbfgkmpoebgaaDoorRpReplies
import Derived.Deep.RegionHeld3
import Derived.Deep.AppendLies
namespace Go.Proofs.YtcjbfgkmpoebgaaDoor
open Go.RowKit Go.Shelf
attribute [local go_sem] Oper.semAt_some

theorem info24 : (Tryd.prog.info? 24).map (fun i => (i.zero, i.size, i.bytes)) = some (some (.agg #[.int .i64 0, .string ⟨#[]⟩, .int .i64 0, .slice none 0 0]), 4, 56) := by kernel_rfl

def agg4 (x : EV) : List Value := [.int .i64 x.k, .string x.s, .int .i64 x.n, .slice x.a x.m x.cap]
def flat4 (xs : List EV) : List Value := xs.flatMap agg4
theorem flat4_len (xs : List EV) : (flat4 xs).length = xs.length * 4 := by
  induction xs with
  | nil => rfl
  | cons x xs ih =>
    unfold flat4 at ih ⊢
    rw [List.flatMap_cons, List.length_append, ih]
    simp [agg4]
    omega
theorem flat4_snoc (xs : List EV) (x : EV) : flat4 (xs ++ [x]) = flat4 xs ++ agg4 x := by unfold flat4; rw [List.flatMap_append]; simp

/-- four stores into a row. -/
def set4o (A : World) (g o : Nat) (x y z u : Value) : World := (((A.setCell ⟨g, o, none⟩ x).setCell ⟨g, o + 1, none⟩ y).setCell ⟨g, o + 2, none⟩ z).setCell ⟨g, o + 3, none⟩ u

theorem owns_last {w : World} {base g n cap : Nat} {xs : List Value} {z0 z1 z2 z3 : Value} (h : w.ownsRow base 24 4 (.slice (some ⟨g, 0, none⟩) (n + 1) cap) (n + 1) (xs ++ [z0, z1, z2, z3])) (hx : xs.length = n * 4) (x y z u : Value) :
    (set4o w g (n * 4) x y z u).ownsRow base 24 4 (.slice (some ⟨g, 0, none⟩) (n + 1) cap) (n + 1) (xs ++ [x, y, z, u]) := by
  refine ⟨by simp [hx]; omega, ?_⟩
  rcases h.2 with ⟨hv, _⟩ | ⟨g', cap', cur, hv, hb, hg, h1, h2, h3, h4⟩
  · cases hv
  · injection hv with hv1 _ hv2
    injection hv1 with hv1
    injection hv1 with hv1 _ _
    subst hv1 hv2
    refine .inr ⟨g, cap, (((cur.setIfInBounds (n * 4) x).setIfInBounds (n * 4 + 1) y).setIfInBounds (n * 4 + 2) z).setIfInBounds (n * 4 + 3) u, rfl, hb, ?_, h1, h2, by simpa using h3, ?_⟩
    · simp [set4o, World.setCell, Array.getElem?_modify, hg]
    · simp only [Array.toList_setIfInBounds, List.take_set, h4]
      rw [← hx]
      simp

theorem row_cells {w : World} {base g n cap : Nat} {xs : List Value} {z0 z1 z2 z3 : Value} (h : w.ownsRow base 24 4 (.slice (some ⟨g, 0, none⟩) (n + 1) cap) (n + 1) (xs ++ [z0, z1, z2, z3])) (hx : xs.length = n * 4) :
    (w.cell? ⟨g, n * 4, none⟩ = some z0 ∧ w.cell? ⟨g, n * 4 + 1, none⟩ = some z1 ∧ w.cell? ⟨g, n * 4 + 2, none⟩ = some z2 ∧ w.cell? ⟨g, n * 4 + 3, none⟩ = some z3) ∧
    (w.frozen? ⟨g, n * 4, none⟩ = false ∧ w.frozen? ⟨g, n * 4 + 1, none⟩ = false ∧ w.frozen? ⟨g, n * 4 + 2, none⟩ = false ∧ w.frozen? ⟨g, n * 4 + 3, none⟩ = false) := by
  have hc := h.cells (g := g) rfl
  have e : ∀ j, (⟨g, 0, none⟩ : Addr).add j = ⟨g, j, none⟩ := fun j => by unfold Addr.add; split <;> simp_all
  refine ⟨⟨?_, ?_, ?_, ?_⟩, ?_⟩
  · have := hc (n * 4) z0 (by rw [← hx]; simp)
    rwa [e] at this
  · have := hc (n * 4 + 1) z1 (by rw [← hx]; simp)
    rwa [e] at this
  · have := hc (n * 4 + 2) z2 (by rw [← hx]; simp)
    rwa [e] at this
  · have := hc (n * 4 + 3) z3 (by rw [← hx]; simp)
    rwa [e] at this
  · rcases h.2 with ⟨hv, _⟩ | ⟨g', cap', cur, hv, hb, hg, _⟩
    · cases hv
    · injection hv with hv1 _ _
      injection hv1 with hv1
      injection hv1 with hv1 _ _
      subst hv1
      simp [World.frozen?, hg]

/-- the replies of a row, as a list. -/
theorem repL_of {S : Nat → Prop} {w : World} {g : Nat} : ∀ (xs : List EV) (o : Nat), (∀ j u, (flat4 xs)[j]? = some u → w.cell? ⟨g, o + j, none⟩ = some u) → (∀ x ∈ xs, Rep S w x.r (.agg (agg4 x).toArray)) → RepL S w (xs.map EV.r) g o
  | [], _, _, _ => by unfold RepL; trivial
  | x :: xs, o, h, hr => by
    have hf : flat4 (x :: xs) = agg4 x ++ flat4 xs := by unfold flat4; rw [List.flatMap_cons]
    rw [List.map_cons]
    unfold RepL
    refine ⟨⟨_, _, _, _, h 0 (.int .i64 x.k) (by rw [hf]; rfl), h 1 (.string x.s) (by rw [hf]; rfl), h 2 (.int .i64 x.n) (by rw [hf]; rfl), h 3 (.slice x.a x.m x.cap) (by rw [hf]; rfl), hr x (by simp)⟩, ?_⟩
    refine repL_of xs (o + 4) (fun j u hj => ?_) fun y hy => hr y (by simp [hy])
    rw [show o + 4 + j = o + (j + 4) by omega]
    refine h (j + 4) u ?_
    rw [hf, List.getElem?_append_right (by simp [agg4])]
    simpa [agg4] using hj

theorem Keeps.trans_lt {T U : Nat → Prop} {A B C : World} (h : Keeps T A B) (k : Keeps U B C) (hs : ∀ i, i < A.heap.size → T i → U i) : Keeps T A C :=
  ⟨k.os.trans h.os, k.tape.trans h.tape, k.output.trans h.output, Nat.le_trans h.size k.size, fun i hi ht => (k.block i (Nat.lt_of_lt_of_le hi h.size) (hs i hi ht)).trans (h.block i hi ht)⟩

/-- the row as the elements of a reply. -/
theorem row_rep {A : World} {Bs : Nat} {xs : List EV} {v : Value} (h : A.ownsRow Bs 24 4 v xs.length (flat4 xs)) (hl : xs.length ≤ 65536) (hr : ∀ x ∈ xs, Rep (fun k => Bs ≤ k) A x.r (.agg (agg4 x).toArray)) :
    ∃ a cap, v = .slice a xs.length cap ∧ Rep (fun k => Bs ≤ k) A (.mk 6 [] 0 (xs.map EV.r)) (.agg #[.int .i64 6, .string ⟨#[]⟩, .int .i64 0, .slice a xs.length cap]) := by
  have hm : maxLen = 9223372036854775807 := by decide
  rcases h.2 with ⟨rfl, h0⟩ | ⟨g, cap, cur, rfl, hb, hg, h1, h2, _⟩
  · have : xs = [] := List.eq_nil_of_length_eq_zero h0
    subst this
    exact ⟨none, 0, rfl, rep_plain (by unfold Fit; simp)⟩
  · refine ⟨_, cap, rfl, ?_⟩
    have hc := h.cells (g := g) rfl
    have e : ∀ j, (⟨g, 0, none⟩ : Addr).add j = ⟨g, j, none⟩ := fun j => by unfold Addr.add; split <;> simp_all
    have hR : RepL (fun k => Bs ≤ k) A (xs.map EV.r) g 0 := repL_of xs 0 (fun j u hj => by rw [Nat.zero_add, ← e j]; exact hc j u hj) hr
    have := Rep.intro (S := fun k => Bs ≤ k) (w := A) (k := 6) (s := []) (n := 0) (l := xs.map EV.r) (a := some ⟨g, 0, none⟩) (cap := cap) (by unfold Fit; simp; omega) (.inr ⟨g, 0, rfl, hb, (Array.getElem?_eq_some_iff.1 hg).1, hR⟩)
    rw [List.length_map] at this
    exact this

/-- the two results' boxes are stored. -/
def set5 (A : World) (b : Nat) (x y z u c : Value) : World := (set4 A b x y z u).setCell ⟨b + 1, 0, none⟩ c
theorem heap_five {A : World} {b : Nat} {p q r s o : Value} (h : A.heap[b]? = some (.cells #[p, q, r, s] 24 (0, 0))) (h2 : A.heap[b + 1]? = some (.cells #[o] 32 (0, 0))) (x y z u c : Value) :
    (set5 A b x y z u c).heap[b]? = some (.cells #[x, y, z, u] 24 (0, 0)) ∧ (set5 A b x y z u c).heap[b + 1]? = some (.cells #[c] 32 (0, 0)) := by
  refine ⟨?_, ?_⟩
  · exact (Below.heap_setCell _ _ _ _ (by simp)).trans (heap_four h x y z u)
  · refine heap_one (x := o) ?_ c
    unfold set4
    exact (Below.heap_setCell _ _ _ _ (by simp)).trans ((Below.heap_setCell _ _ _ _ (by simp)).trans ((Below.heap_setCell _ _ _ _ (by simp)).trans ((Below.heap_setCell _ _ _ _ (by simp)).trans h2)))
theorem keeps_set5 {T : Nat → Prop} {w A : World} (h : Keeps T w A) {b : Nat} (hb : w.heap.size ≤ b ∨ (¬ T b ∧ ¬ T (b + 1))) (x y z u c : Value) : Keeps T w (set5 A b x y z u c) :=
  (keeps_set4 h (hb.imp id And.left) x y z u).setCell (p := ⟨b + 1, 0, none⟩) (hb.imp (fun h => Nat.le_succ_of_le h) And.right) c

/-- an append as one step of a region that draws its order, in a round. -/
theorem stepIn_append {F : Fence} {n : Nat} {ops : Array Oper} {o : Oper} {a : Act} {w w' : World} {K : Act → World → Prop} {Q : Exit → Act → World → Prop} {E : Prop} {v' : Value} (hgd : o.guard = none) (s x : Operand) (t : TypeId)
    (ho : o.op = .call { callee := .builtin .append, args := #[s, x], argTypes := #[t, t] }) (vs vx : Value) (hs : a.eval s = vs) (hx : a.eval x = vx) (hrun : (Builtin.append_ #[t, t] o.type #[vs, vx]).run Tryd.prog w = .ok v' w') (h : K (a.put o.dst v') w') :
    if Region.wanted o (yielded ops a.tmps) = true then Oper.wpIn F n Tryd.prog o a w K Q else E := by
  have hw : Region.wanted o (yielded ops a.tmps) = true := by simp [Region.wanted, hgd]
  rw [if_pos hw]
  unfold Oper.wpIn
  refine ⟨by simp [Oper.about, ho, resolve, Target.leads, Sem.run_pure], ?_⟩
  rw [Oper.semAt_plain F _ _ (by rw [ho]; intro c hc'; cases hc')]
  simp [execOp, ho, resolve, invoke, builtin, hs, hx, hrun, Result.andThen]
  exact h

end Go.Proofs.YtcjbfgkmpoebgaaDoor
