/- strings.Clone; an iterator that is not left; the row that a loop appends to. -/
import Derived.Test.YtekdmnecjgpokaaWds
import Derived.Test.YtekdmnecjgpokaaShelf
import Derived.Test.YtekdmnecjgpokaaSeqB
import Derived.Test.YtekdmnecjgpokaaStPlain
namespace Go.Proofs.Ytekdmnecjgpokaa
open Go.RowKit Go.Shelf
attribute [local go_sem] Oper.semAt_some
set_option linter.unusedVariables false
set_option linter.unusedSimpArgs false

set_option maxHeartbeats 1000000 in
theorem clone_any (l : List UInt8) (w : World) (h : l.length ≤ 281474976710656) : Calls Try.prog 32 #[.string ⟨l.toArray⟩] w fun e w' => e = .returned (.string ⟨l.toArray⟩) ∧ Below w.heap.size w w' := by
  have hs : (⟨l.toArray⟩ : ByteArray).size = l.length := by simp [ByteArray.size]
  have hc : Calls Try.prog 41 #[.string ⟨l.toArray⟩] w fun e w' => e = .returned (.string ⟨l.toArray⟩) ∧ Below w.heap.size w w' := Try.stringslite_Clone ⟨l.toArray⟩ w (by omega)
  have HC := Lib.hid hc
  clear hc hs
  go_enter Try.func32, Try.ntmps32
  go_wp2_with (go_at_call 41; refine HC.out.mono ?_; rintro e w1 ⟨rfl, hb⟩; have HB := Lib.hid hb; clear hb)
  go_ret
  exact ⟨rfl, HB.out⟩

/-- a text of no great length. -/
def OkW (s : List UInt8) : Prop := s.length ≤ 1000000

theorem round_next {B : Nat} {Dt Pv O O' : Nat → Prop} {W wr A W3 : World} (hO : ∀ k, O k → W.heap.size ≤ k ∧ k < wr.heap.size) (hA : wr.heap.size ≤ A.heap.size) (hW : W.heap.size ≤ wr.heap.size) (hB : B = W.heap.size)
    (hk : Keeps Dt W A) (hk3 : Keeps (RoundS Dt Pv B O) A W3) (hg : Grows O O' A W3) : (∀ k, O' k → W.heap.size ≤ k ∧ k < W3.heap.size) ∧ Keeps Dt W W3 := by
  refine ⟨fun k hk' => ?_, hk.trans (hk3.mono fun k _ h => .inl h)⟩
  obtain ⟨h1, h2⟩ := hg k hk'
  rcases h2 with h2 | h2
  · exact ⟨(hO k h2).1, h1⟩
  · exact ⟨by omega, h1⟩
theorem take_succ_getD {α : Type} {l : List α} {d : α} {k : Nat} (h : k < l.length) : l.take (k + 1) = l.take k ++ [l.getD k d] := by
  rw [List.take_succ_eq_append_getElem h, getD_eq h]

/-- an iterator that is not left. -/
theorem seq_false {α : Type} {T : α → Prop} {P : Program} {g : Nat} {lb : Array Value} {encs : α → Array Value} {Dt Dt' Pv : Nat → Prop} {S Sp : List α → Prop} {N : Nat} {w w' : World} (h : SeqB T true P g lb encs Dt Pv S Sp N w) (hD : ∀ k, Dt k → Dt' k) (hb : Below w.heap.size w w') : SeqB T false P g lb encs Dt' Pv S (fun _ => False) N w' := by
  intro l J Jx W hW hJ hJx hst hY h0
  refine (h l J Jx W (hb.trans (hW.mono hb.size)) hJ hJx (fun e => by cases e) ?_ h0).mono ?_
  · intro O pre x W1 hO hs hj hN hT
    obtain ⟨fn, tmps, assign, body, hy, hR⟩ := hY O pre x W1 hO hs hj hN hT
    exact ⟨fn, tmps, assign, body, hy, hR.mono fun e W' ⟨hk, r⟩ => ⟨hk.mono fun k _ h => h.imp (hD k) id, r⟩⟩
  · rintro e W2 ⟨h1, h2, O, h3, h4⟩
    refine ⟨h1, h2, O, h3, ?_⟩
    rcases h4 with h4 | ⟨pre, -, h4⟩
    · exact .inl h4
    · exact (hst rfl _ _ _ h4).elim
theorem SeqB.weak {α : Type} {T T' : α → Prop} {st : Bool} {P : Program} {g : Nat} {lb : Array Value} {encs : α → Array Value} {Dt Pv : Nat → Prop} {S Sp : List α → Prop} {N : Nat} {w : World} (h : SeqB T st P g lb encs Dt Pv S Sp N w) (hT : ∀ x, T x → T' x) : SeqB T' st P g lb encs Dt Pv S Sp N w := by
  intro l J Jx W hW hJ hJx hst hY h0
  exact h l J Jx W hW hJ hJx hst (fun O pre x W1 hO hs hj hN hx => hY O pre x W1 hO hs hj hN (hT x hx)) h0
theorem SeqB.most {α : Type} {T : α → Prop} {st : Bool} {P : Program} {g : Nat} {lb : Array Value} {encs : α → Array Value} {Dt Pv : Nat → Prop} {S Sp : List α → Prop} {N M : Nat} {w : World} (h : SeqB T st P g lb encs Dt Pv S Sp N w) (hM : N ≤ M) : SeqB T st P g lb encs Dt Pv S Sp M w := by
  intro l J Jx W hW hJ hJx hst hY h0
  exact h l J Jx W hW hJ hJx hst (fun O pre x W1 hO hs hj hN hx => hY O pre x W1 hO hs hj (by omega) hx) h0
theorem SeqB.later {α : Type} {T : α → Prop} {st : Bool} {P : Program} {g : Nat} {lb : Array Value} {encs : α → Array Value} {Dt Dt' Pv : Nat → Prop} {S Sp : List α → Prop} {N : Nat} {w w' : World} (h : SeqB T st P g lb encs Dt Pv S Sp N w) (hD : ∀ k, Dt k → Dt' k) (hb : Below w.heap.size w w') : SeqB T st P g lb encs Dt' Pv S Sp N w' := by
  intro l J Jx W hW hJ hJx hst hY h0
  refine h l J Jx W (hb.trans (hW.mono hb.size)) hJ hJx hst ?_ h0
  intro O pre x W1 hO hs hj hN hT
  obtain ⟨fn, tmps, assign, body, hy, hR⟩ := hY O pre x W1 hO hs hj hN hT
  exact ⟨fn, tmps, assign, body, hy, hR.mono fun e W' ⟨hk, r⟩ => ⟨hk.mono fun k _ h => h.imp (hD k) id, r⟩⟩

theorem cell_next {A B : World} {p : Addr} {v : Value} (h : A.cell? p = some v) (hb : Below A.heap.size A B) : B.cell? p = some v := (hb.cell (World.block_lt_of_cell? A p h)).trans h
theorem own_post_no {α : Type} {R : Nat → Prop} {O : Nat → Prop} {I : (Nat → Prop) → List α → World → Prop} {Ix : Code → (Nat → Prop) → List α → World → Prop} {xs : List α} {W : World} : ¬ LetsOut (ownPostT R O I Ix xs W) := by
  rintro ⟨a, w, h⟩
  exact h
theorem own_block_no {α : Type} {id : Nat} {R : Nat → Prop} {O : Nat → Prop} {I : (Nat → Prop) → List α → World → Prop} {Ix : Code → (Nat → Prop) → List α → World → Prop} {xs : List α} {W : World} : ¬ LetsOut (Exit.inBlock id (ownPostT R O I Ix xs W)) := by
  rintro ⟨a, w, h⟩
  exact h

/-- the row that a loop appends to, in its box; what stood in it ahead of the loop: init. B: where the loop begins. -/
def LInv {α : Type} (t e : TypeId) (sz : Nat) (cells : List α → List Value) (B : Nat) (w : World) (init : List α) (O : Nat → Prop) (pre : List α) (W : World) : Prop :=
  (∃ v, Boxed W w.heap.size t v ∧ W.ownsRow (w.heap.size + 1) e sz v (init ++ pre).length (cells (init ++ pre)) ∧ ∀ g, v.ownBlock = some g → O g ∨ g < B) ∧ Below w.heap.size w W

theorem LInv.abides {α : Type} {t e : TypeId} {sz : Nat} {cells : List α → List Value} {w : World} {init : List α} {B : Nat} (hB : w.heap.size < B) : AbidesT B (fun _ => False) (LInv t e sz cells B w init) := by
  rintro O s A C ⟨⟨v, h1, h2, h4⟩, h5⟩ hk
  have own : ∀ k, k < B → IterS (fun _ => False) B O k := fun k h => ⟨id, .inl h⟩
  exact ⟨⟨v, hk.heap h1 (own _ hB), owns_kept h2 hk (fun g hg => ⟨id, (h4 g hg).symm⟩), h4⟩, h5.trans (hk.below h5.size fun k hk' => own k (by omega))⟩

/-- one round: the row has grown by one. -/
theorem LInv.round {α : Type} {t e : TypeId} {sz : Nat} {cells : List α → List Value} {w A w2 w3 : World} {O Dt : Nat → Prop} {init pre : List α} {x : α} {v : Value} {o : Obj} {g cap B : Nat} {news : List Value} {aa : Act} {Ix : Code → (Nat → Prop) → List α → World → Prop}
    (hv : Boxed A w.heap.size t v) (hrow : A.ownsRow (w.heap.size + 1) e sz v (init ++ pre).length (cells (init ++ pre))) (hown : ∀ g, v.ownBlock = some g → O g ∨ g < B) (hB : Below w.heap.size w A) (hO : ∀ k, O k → B + 2 ≤ k ∧ k < A.heap.size) (hBs : w.heap.size < B) (hDt : ∀ k, Dt k → k < w.heap.size)
    (hk : Keeps (fun _ => True) A w2) (hc : cells (init ++ (pre ++ [x])) = cells (init ++ pre) ++ news)
    (h3 : w3.ownsRow (w.heap.size + 1) e sz (.slice (some ⟨g, 0, none⟩) ((init ++ pre).length + 1) cap) ((init ++ pre).length + 1) (cells (init ++ pre) ++ news)) (hg : (w2.alloc o).grownBy w3 v.ownBlock) (hat : v.ownBlock = some g ∨ g = (w2.alloc o).heap.size) (hlt : g < w3.heap.size) :
    ownPostT (RoundS Dt (fun _ => False) B O) O (LInv t e sz cells B w init) Ix (pre ++ [x]) A .normal aa (w3.setCell ⟨w.heap.size, 0, none⟩ (.slice (some ⟨g, 0, none⟩) ((init ++ pre).length + 1) cap)) := by
  have hk3 : Keeps (fun k => some k ≠ v.ownBlock) A w3 := ((hk.mono fun _ _ _ => trivial).alloc o).trans (Keeps.of_grown hg fun r e h => h e.symm)
  have hv3 : Boxed w3 w.heap.size t v := hk3.heap hv (fun e => by have := (hrow.lt _ e.symm).1; omega)
  refine ⟨?_, fun k => O k ∨ (A.heap.size ≤ k ∧ k < w3.heap.size), ?_, ⟨_, hv3.set _, ?_, ?_⟩, ?_⟩
  · refine (hk3.mono ?_).setCell (.inr ?_) _
    · rintro k hkA h e
      have hgk := hrow.lt k e.symm
      rcases h with h | h | h
      · have := hDt k h; omega
      · exact h
      · rcases hown k e.symm with h' | h'
        · exact h.2 h'
        · omega
    · rintro (h | h | h)
      · exact absurd (hDt _ h) (Nat.lt_irrefl _)
      · exact h
      · have h' := h.1; change B ≤ w.heap.size at h'; omega
  · rintro k (h | h)
    · exact ⟨by simp [World.setCell]; exact Nat.lt_of_lt_of_le (hO k h).2 hk3.size, .inl h⟩
    · exact ⟨by simp [World.setCell]; exact h.2, .inr h.1⟩
  · rw [hc, ← List.append_assoc, show (init ++ pre ++ [x]).length = (init ++ pre).length + 1 from List.length_append]
    exact ownsRow_setCell_below h3 (a := ⟨w.heap.size, 0, none⟩) (Nat.lt_succ_self w.heap.size) _
  · intro g' hg'
    have e' : g' = g := by simp [Value.ownBlock] at hg'; exact hg'.symm
    subst e'
    rcases hat with e | e
    · rcases hown _ e with h | h
      · exact .inl (.inl h)
      · exact .inr h
    · refine .inl (.inr ⟨?_, hlt⟩)
      rw [e]
      simp
      have := hk.size
      omega
  · exact (hB.trans (hk3.below hB.size fun k hk' e => by have := (hrow.lt k e.symm).1; omega)).setCell (p := ⟨w.heap.size, 0, none⟩) (Nat.le_refl _) _

end Go.Proofs.Ytekdmnecjgpokaa
