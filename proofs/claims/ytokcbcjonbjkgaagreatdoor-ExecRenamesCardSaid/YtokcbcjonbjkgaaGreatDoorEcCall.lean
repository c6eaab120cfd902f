/- The program's call in memory: its cells, its maps, the items in them. -/
import Derived.Test.YtokcbcjonbjkgaaGreatDoorExMap
import Derived.Test.YtokcbcjonbjkgaaGreatDoorEcPlain
import Derived.Test.YtokcbcjonbjkgaaGreatDoorSpcFind
import Derived.Test.YtokcbcjonbjkgaaGreatDoorRpRep
import Derived.Test.YtokcbcjonbjkgaaGreatDoorSeqK
namespace Go.Proofs.YtokcbcjonbjkgaaGreatDoor
open Go.RowKit Go.Shelf
set_option linter.unusedVariables false
set_option linter.unusedSimpArgs false

/-- items under keys, with the places of their lists. -/
abbrev ML := List UInt8 → Option Li
def ML.v (f : ML) : List UInt8 → Option Value := fun k => (f k).map Li.v
def ML.i (f : ML) : Ec.M := fun k => (f k).map Li.i
/-- a call: its block, its maps' blocks, what they hold. -/
structure Cl where
  p : Nat
  mb : Nat
  mi : Nat
  aW : Option Addr
  cW : Nat
  ws : List (List UInt8)
  now : Int
  kind : Int
  nv : Value
  ns : List Int
  kv : Value
  ks : List (List UInt8)
  nb : Nat
  ni : Nat
  bf : ML
  it : ML
  inv : Bool
  rs : List Nat
def Cl.cells (c : Cl) : List Value := [.slice c.aW c.ws.length c.cW, .int .i64 c.now, .int .i64 c.kind, c.nv, c.kv, .map (some c.mb), .map (some c.mi), .bool c.inv]
/-- the call's own blocks. -/
def Cl.own (c : Cl) (g : Nat) : Prop := g = c.p ∨ g = c.mb ∨ g = c.mi ∨ c.kv.ownBlock = some g ∨ c.nv.ownBlock = some g
/-- it lies far from the call's own blocks. -/
def Cl.off (c : Cl) (g : Nat) : Prop := c.own g ∨ g ∈ c.rs
def Li.Off (c : Cl) (i : Li) : Prop := ∀ g, c.off g → i.Far (some g)
/-- items in memory, far from the call's blocks, small. -/
def ML.Ok (c : Cl) (f : ML) (W : World) : Prop := ∀ k i, f k = some i → i.Ok W ∧ i.Off c ∧ i.i.Sm
/-- the call, as it lies; w0: the world ahead of it. -/
structure Cl.At (c : Cl) (w0 W : World) : Prop where
  hp : W.heap[c.p]? = some (.cells c.cells.toArray 84 (0, 0))
  hb : MapI W c.mb c.nb c.bf.v
  hi : MapI W c.mi c.ni c.it.v
  hne : c.mb ≠ c.mi
  hW : Wds W c.aW c.cW c.ws
  hWo : ∀ b o, c.aW = some ⟨b, o, none⟩ → c.ws ≠ [] → b < w0.heap.size
  hn : W.ownsRow w0.heap.size 3 1 c.nv c.ns.length (c.ns.map (Value.int .i64))
  hk : W.ownsRow w0.heap.size 9 1 c.kv c.ks.length (wcells c.ks)
  kb : c.bf.Ok c W
  ki : c.it.Ok c W
  low : w0.heap.size ≤ c.p ∧ w0.heap.size ≤ c.mb ∧ w0.heap.size ≤ c.mi
  bel : Below w0.heap.size w0 W
  wsl : c.ws.length ≤ 1000 ∧ ∀ s ∈ c.ws, s.length ≤ 1000000
  ksl : c.ks.length ≤ 1000 ∧ ∀ s ∈ c.ks, s.length ≤ 1000000
  nsl : c.ns.length ≤ 1000
  siz : c.nb ≤ 100000 ∧ c.ni ≤ 100000
  rsl : ∀ g ∈ c.rs, g < W.heap.size
  fit : -9223372036854775808 ≤ c.now ∧ c.now ≤ 4611686018427387904

theorem Cl.At.lt {c : Cl} {w0 W : World} (h : c.At w0 W) : c.p < W.heap.size ∧ c.mb < W.heap.size ∧ c.mi < W.heap.size := ⟨(Array.getElem?_eq_some_iff.1 h.hp).1, h.hb.lt, h.hi.lt⟩
theorem MapI.obj {w : World} {b n : Nat} {f : List UInt8 → Option Value} (h : MapI w b n f) : ∃ es cl, w.heap[b]? = some (.map es cl) := by
  obtain ⟨D, ⟨es, cl, hg, -⟩, -⟩ := h
  exact ⟨es, cl, hg⟩
theorem Cl.At.ne {c : Cl} {w0 W : World} (h : c.At w0 W) : c.p ≠ c.mb ∧ c.p ≠ c.mi := by
  refine ⟨fun e => ?_, fun e => ?_⟩
  · obtain ⟨es, cl, hg⟩ := h.hb.obj
    rw [← e, h.hp] at hg
    cases hg
  · obtain ⟨es, cl, hg⟩ := h.hi.obj
    rw [← e, h.hp] at hg
    cases hg
theorem ownsRow_blk {w : World} {base : Nat} {t : TypeId} {sz n : Nat} {v : Value} {xs : List Value} (h : w.ownsRow base t sz v n xs) : ∀ g, v.ownBlock = some g → base ≤ g ∧ ∃ cur, w.heap[g]? = some (.cells cur t (0, 0)) := by
  intro g hg
  obtain ⟨_, h1⟩ := h
  rcases h1 with ⟨h1, -⟩ | ⟨g', cap, cur, h1, hB, hgg, -⟩
  · rw [h1] at hg; cases hg
  · rw [h1] at hg; cases hg; exact ⟨hB, cur, hgg⟩
theorem Cl.At.kne {c : Cl} {w0 W : World} (h : c.At w0 W) : c.kv.ownBlock ≠ some c.p ∧ c.kv.ownBlock ≠ some c.mb ∧ c.kv.ownBlock ≠ some c.mi := by
  refine ⟨fun e => ?_, fun e => ?_, fun e => ?_⟩
  · obtain ⟨_, cur, hg⟩ := ownsRow_blk h.hk _ e
    rw [h.hp] at hg
    injection hg with hg
    injection hg with h1 h2
    exact absurd h2 (by decide)
  · obtain ⟨_, cur, hg⟩ := ownsRow_blk h.hk _ e
    obtain ⟨es, cl, hm⟩ := h.hb.obj
    rw [hm] at hg; cases hg
  · obtain ⟨_, cur, hg⟩ := ownsRow_blk h.hk _ e
    obtain ⟨es, cl, hm⟩ := h.hi.obj
    rw [hm] at hg; cases hg
theorem Cl.At.nne {c : Cl} {w0 W : World} (h : c.At w0 W) : c.nv.ownBlock ≠ some c.p ∧ c.nv.ownBlock ≠ some c.mb ∧ c.nv.ownBlock ≠ some c.mi ∧ ∀ g, c.nv.ownBlock = some g → c.kv.ownBlock ≠ some g := by
  refine ⟨fun e => ?_, fun e => ?_, fun e => ?_, fun g e e2 => ?_⟩
  · obtain ⟨_, cur, hg⟩ := ownsRow_blk h.hn _ e
    rw [h.hp] at hg
    injection hg with hg
    injection hg with h1 h2
    exact absurd h2 (by decide)
  · obtain ⟨_, cur, hg⟩ := ownsRow_blk h.hn _ e
    obtain ⟨es, cl, hm⟩ := h.hb.obj
    rw [hm] at hg; cases hg
  · obtain ⟨_, cur, hg⟩ := ownsRow_blk h.hn _ e
    obtain ⟨es, cl, hm⟩ := h.hi.obj
    rw [hm] at hg; cases hg
  · obtain ⟨_, cur, hg⟩ := ownsRow_blk h.hn _ e
    obtain ⟨_, cur2, hg2⟩ := ownsRow_blk h.hk _ e2
    rw [hg] at hg2
    injection hg2 with hg2
    injection hg2 with h1 h2
    exact absurd h2 (by decide)
theorem Cl.At.ownl {c : Cl} {w0 W : World} (h : c.At w0 W) : ∀ g, c.own g → w0.heap.size ≤ g ∧ g < W.heap.size := by
  rintro g (rfl | rfl | rfl | e | e)
  · exact ⟨h.low.1, h.lt.1⟩
  · exact ⟨h.low.2.1, h.lt.2.1⟩
  · exact ⟨h.low.2.2, h.lt.2.2⟩
  · exact h.hk.lt g e
  · exact h.hn.lt g e
theorem Cl.At.offl {c : Cl} {w0 W : World} (h : c.At w0 W) : ∀ g, c.off g → g < W.heap.size := fun g hg => hg.elim (fun h1 => (h.ownl g h1).2) (h.rsl g)
theorem Cl.At.cell {c : Cl} {w0 W : World} (h : c.At w0 W) : W.cell? ⟨c.p, 0, none⟩ = some (.slice c.aW c.ws.length c.cW) ∧ W.cell? ⟨c.p, 1, none⟩ = some (.int .i64 c.now) ∧ W.cell? ⟨c.p, 2, none⟩ = some (.int .i64 c.kind) ∧ W.cell? ⟨c.p, 3, none⟩ = some c.nv ∧ W.cell? ⟨c.p, 4, none⟩ = some c.kv ∧
    W.cell? ⟨c.p, 5, none⟩ = some (.map (some c.mb)) ∧ W.cell? ⟨c.p, 6, none⟩ = some (.map (some c.mi)) ∧ W.cell? ⟨c.p, 7, none⟩ = some (.bool c.inv) := by
  have := h.hp
  simp [World.cell?, this, Cl.cells]
theorem Cl.At.free {c : Cl} {w0 W : World} (h : c.At w0 W) (o : Nat) (ho : o < 8) : W.frozen? ⟨c.p, o, none⟩ = false := by
  have := h.hp
  simp [World.frozen?, this, Cl.cells]
theorem ML.Ok.later {c : Cl} {f : ML} {W W' : World} (h : f.Ok c W) (hb : Below W.heap.size W W') : f.Ok c W' := fun k i e => ⟨(h k i e).1.later hb, (h k i e).2⟩
theorem Cl.At.later {c : Cl} {w0 W W' : World} (h : c.At w0 W) (hb : Below W.heap.size W W') : c.At w0 W' :=
  { h with hp := (hb.block _ h.lt.1).trans h.hp, hb := h.hb.later hb, hi := h.hi.later hb, hW := h.hW.later hb, hn := ownsRow_later h.hn hb, hk := ownsRow_later h.hk hb, kb := h.kb.later hb, ki := h.ki.later hb, bel := h.bel.trans (hb.mono h.bel.size), rsl := fun g hg => Nat.lt_of_lt_of_le (h.rsl g hg) hb.size }
/-- an item is as it was where its blocks are. -/
theorem Li.Ok.keptO {O : Nat → Prop} {i : Li} {W W' : World} (h : i.Ok W) (hf : ∀ g, O g → i.Far (some g)) (hk : Keeps (fun k => ¬ O k) W W') : i.Ok W' :=
  ⟨h.1, h.2.1.grown (fun h0 b off e hlt => hk.block b hlt fun ho => (hf b ho).1 h0 b off e rfl) hk.size, h.2.2.1.grown (fun h0 b off e hlt => hk.block b hlt fun ho => (hf b ho).2 h0 b off e rfl) hk.size, h.2.2.2⟩
theorem ML.Ok.kept {c c' : Cl} {f : ML} {W W' : World} (h : f.Ok c W) (hk : Keeps (fun k => ¬ c.own k) W W') (ho : ∀ g, c'.off g → c.off g ∨ W.heap.size ≤ g) : f.Ok c' W' := fun k i e => by
  obtain ⟨h1, h2, h3⟩ := h k i e
  exact ⟨h1.keptO (fun g hg => h2 g (.inl hg)) hk, fun g hg => (ho g hg).elim (h2 g) fun h4 => h1.far h4, h3⟩
theorem Cl.At.words {c : Cl} {w0 W W' : World} (h : c.At w0 W) (hk : Keeps (fun k => ¬ c.own k) W W') : Wds W' c.aW c.cW c.ws :=
  h.hW.grown (fun h0 b off e hlt => hk.block b hlt fun ho => by have := (h.ownl b ho).1; have := h.hWo b off e h0; omega) hk.size
theorem Cl.At.below {c : Cl} {w0 W W' : World} (h : c.At w0 W) (hk : Keeps (fun k => ¬ c.own k) W W') : Below w0.heap.size w0 W' :=
  h.bel.trans (hk.below h.bel.size fun k hlt ho => by have := (h.ownl k ho).1; omega)
theorem ownsRow_keep {W W' : World} {base : Nat} {t : TypeId} {sz n : Nat} {v : Value} {xs : List Value} (h : W.ownsRow base t sz v n xs) (hb : ∀ g, v.ownBlock = some g → W'.heap[g]? = W.heap[g]?) : W'.ownsRow base t sz v n xs := by
  obtain ⟨h0, h1⟩ := h
  refine ⟨h0, ?_⟩
  rcases h1 with h1 | ⟨g, cap, cur, h1, hg, hgg, rest⟩
  · exact .inl h1
  · exact .inr ⟨g, cap, cur, h1, hg, (hb g (by rw [h1]; rfl)).trans hgg, rest⟩
/-- a block of another type is not the call's own. -/
theorem Cl.At.notown {c : Cl} {w0 W : World} (h : c.At w0 W) {B : Nat} {cs : Array Value} {t : TypeId} (hB : W.heap[B]? = some (.cells cs t (0, 0))) (h1 : t ≠ 84) (h2 : t ≠ 9) (h3 : t ≠ 3) : ¬ c.own B := by
  rintro (rfl | rfl | rfl | e | e)
  · rw [h.hp] at hB
    injection hB with hB
    injection hB with e1 e2
    exact h1 e2.symm
  · obtain ⟨es, cl, hm⟩ := h.hb.obj
    rw [hm] at hB; cases hB
  · obtain ⟨es, cl, hm⟩ := h.hi.obj
    rw [hm] at hB; cases hB
  · obtain ⟨_, cur, hg⟩ := ownsRow_blk h.hk _ e
    rw [hg] at hB
    injection hB with hB
    injection hB with e1 e2
    exact h2 e2.symm
  · obtain ⟨_, cur, hg⟩ := ownsRow_blk h.hn _ e
    rw [hg] at hB
    injection hB with hB
    injection hB with e1 e2
    exact h3 e2.symm
theorem setCell_keeps (W : World) (p o : Nat) (v : Value) : Keeps (fun k => k ≠ p) W (W.setCell ⟨p, o, none⟩ v) := (Keeps.refl _ W).setCell (.inr fun h => h rfl) v

/-- blocks made since are reserved. -/
theorem Cl.At.reserve {c : Cl} {w0 W W' : World} (h : c.At w0 W) (hb : Below W.heap.size W W') (bs : List Nat) (hbs : ∀ g ∈ bs, W.heap.size ≤ g ∧ g < W'.heap.size) : ({ c with rs := bs ++ c.rs } : Cl).At w0 W' := by
  have h2 := h.later hb
  have ho : ∀ (f : ML), f.Ok c W → f.Ok { c with rs := bs ++ c.rs } W' := fun f hf k i e => by
    obtain ⟨h1, h3, h4⟩ := hf k i e
    refine ⟨h1.later hb, fun g hg => ?_, h4⟩
    rcases hg with hg | hg
    · exact h3 g (.inl hg)
    · rcases List.mem_append.1 hg with hg | hg
      · exact h1.far (hbs g hg).1
      · exact h3 g (.inr hg)
  exact { h2 with
    kb := ho _ h.kb
    ki := ho _ h.ki
    rsl := fun g hg => (List.mem_append.1 hg).elim (fun h => (hbs g h).2) (h2.rsl g) }
theorem Cl.At.unreserve {c : Cl} {w0 W : World} (h : c.At w0 W) (bs : List Nat) (hbs : ∀ g ∈ bs, g ∈ c.rs) : ({ c with rs := bs } : Cl).At w0 W := by
  have ho : ∀ (f : ML), f.Ok c W → f.Ok { c with rs := bs } W := fun f hf k i e => by
    obtain ⟨h1, h3, h4⟩ := hf k i e
    exact ⟨h1, fun g hg => h3 g (hg.imp id (hbs g)), h4⟩
  exact { h with
    kb := ho _ h.kb
    ki := ho _ h.ki
    rsl := fun g hg => h.rsl g (hbs g hg) }
/-- a reserved block is turned. -/
theorem Cl.At.apart {c : Cl} {w0 W W' : World} (h : c.At w0 W) {B : Nat} (hB : B ∈ c.rs) (hn : ¬ c.own B) (hlo : w0.heap.size ≤ B) (hk : Keeps (fun k => k ≠ B) W W') : c.At w0 W' := by
  have hne : ∀ g, c.own g → g ≠ B := fun g hg e => hn (e ▸ hg)
  have ho : ∀ (f : ML), f.Ok c W → f.Ok c W' := fun f hf k i e => by
    obtain ⟨h1, h3, h4⟩ := hf k i e
    exact ⟨h1.keptO (O := fun k => k = B) (fun g hg => hg ▸ h3 B (.inr hB)) hk, h3, h4⟩
  exact { h with
    hp := hk.heap h.hp (hne _ (.inl rfl))
    hb := h.hb.heap (hk.block _ h.lt.2.1 (hne _ (.inr (.inl rfl))))
    hi := h.hi.heap (hk.block _ h.lt.2.2 (hne _ (.inr (.inr (.inl rfl)))))
    hW := h.hW.grown (fun h0 b off e hlt => hk.block b hlt fun ho => by have := h.hWo b off e h0; omega) hk.size
    hn := ownsRow_keep h.hn fun g e => hk.block g (h.hn.lt g e).2 (hne _ (.inr (.inr (.inr (.inr e)))))
    hk := ownsRow_keep h.hk fun g e => hk.block g (h.hk.lt g e).2 (hne _ (.inr (.inr (.inr (.inl e)))))
    kb := ho _ h.kb
    ki := ho _ h.ki
    rsl := fun g hg => Nat.lt_of_lt_of_le (h.rsl g hg) hk.size
    bel := h.bel.trans (hk.below h.bel.size fun k hlt e => by omega) }

/-- the items' map is turned. -/
theorem Cl.At.items {c : Cl} {w0 W W' : World} (h : c.At w0 W) (hk : Keeps (fun k => k ≠ c.mi) W W') (n : Nat) (g : ML) (hm : MapI W' c.mi n g.v) (hn : n ≤ 100000) (hg : ∀ k i, g k = some i → c.it k = some i ∨ (i.Ok W ∧ i.Off c ∧ i.i.Sm)) : ({ c with it := g, ni := n } : Cl).At w0 W' := by
  have hO : Keeps (fun k => ¬ c.own k) W W' := hk.mono fun k _ ho e => ho (.inr (.inr (.inl e)))
  exact { h with
    hp := hk.heap h.hp h.ne.2
    hb := h.hb.heap (hk.block _ h.lt.2.1 h.hne)
    hi := hm
    hW := h.words hO
    hn := ownsRow_keep h.hn fun g e => hk.block g (h.hn.lt g e).2 fun e2 => h.nne.2.2.1 (e2 ▸ e)
    hk := ownsRow_keep h.hk fun g e => hk.block g (h.hk.lt g e).2 fun e2 => h.kne.2.2 (e2 ▸ e)
    kb := h.kb.kept (c' := { c with it := g, ni := n }) hO fun _ ho => .inl ho
    ki := fun k i e => by
      have hx : i.Ok W ∧ i.Off c ∧ i.i.Sm := (hg k i e).elim (h.ki k i) id
      exact ⟨hx.1.keptO (fun g hg => hx.2.1 g (.inl hg)) hO, hx.2⟩
    rsl := fun g hg => Nat.lt_of_lt_of_le (h.rsl g hg) hO.size
    bel := h.below hO
    siz := ⟨h.siz.1, hn⟩ }
/-- the elder items' map is turned. -/
theorem Cl.At.befores {c : Cl} {w0 W W' : World} (h : c.At w0 W) (hk : Keeps (fun k => k ≠ c.mb) W W') (n : Nat) (g : ML) (hm : MapI W' c.mb n g.v) (hn : n ≤ 100000) (hg : ∀ k i, g k = some i → c.bf k = some i ∨ (i.Ok W ∧ i.Off c ∧ i.i.Sm)) : ({ c with bf := g, nb := n } : Cl).At w0 W' := by
  have hO : Keeps (fun k => ¬ c.own k) W W' := hk.mono fun k _ ho e => ho (.inr (.inl e))
  exact { h with
    hp := hk.heap h.hp h.ne.1
    hb := hm
    hi := h.hi.heap (hk.block _ h.lt.2.2 fun e => h.hne e.symm)
    hW := h.words hO
    hn := ownsRow_keep h.hn fun g e => hk.block g (h.hn.lt g e).2 fun e2 => h.nne.2.1 (e2 ▸ e)
    hk := ownsRow_keep h.hk fun g e => hk.block g (h.hk.lt g e).2 fun e2 => h.kne.2.1 (e2 ▸ e)
    ki := h.ki.kept (c' := { c with bf := g, nb := n }) hO fun _ ho => .inl ho
    kb := fun k i e => by
      have hx : i.Ok W ∧ i.Off c ∧ i.i.Sm := (hg k i e).elim (h.kb k i) id
      exact ⟨hx.1.keptO (fun g hg => hx.2.1 g (.inl hg)) hO, hx.2⟩
    rsl := fun g hg => Nat.lt_of_lt_of_le (h.rsl g hg) hO.size
    bel := h.below hO
    siz := ⟨hn, h.siz.2⟩ }
/-- a cell of the call is turned, no row. -/
theorem Cl.At.setp {c : Cl} {w0 W : World} (h : c.At w0 W) (c' : Cl) (hc : c' = { c with kind := c'.kind, inv := c'.inv }) (o : Nat) (v : Value) (hp : (W.setCell ⟨c.p, o, none⟩ v).heap[c.p]? = some (.cells c'.cells.toArray 84 (0, 0))) : c'.At w0 (W.setCell ⟨c.p, o, none⟩ v) := by
  have hk := setCell_keeps W c.p o v
  have hO : Keeps (fun k => ¬ c.own k) W (W.setCell ⟨c.p, o, none⟩ v) := hk.mono fun k _ ho e => ho (.inl e)
  rw [hc] at hp ⊢
  exact { h with
    hp := hp
    hb := h.hb.heap (hk.block _ h.lt.2.1 fun e => h.ne.1 e.symm)
    hi := h.hi.heap (hk.block _ h.lt.2.2 fun e => h.ne.2 e.symm)
    hW := h.words hO
    hn := ownsRow_keep h.hn fun g e => hk.block g (h.hn.lt g e).2 fun e2 => h.nne.1 (e2 ▸ e)
    hk := ownsRow_keep h.hk fun g e => hk.block g (h.hk.lt g e).2 fun e2 => h.kne.1 (e2 ▸ e)
    kb := h.kb.kept (c' := { c with kind := c'.kind, inv := c'.inv }) hO fun _ ho => .inl ho
    ki := h.ki.kept (c' := { c with kind := c'.kind, inv := c'.inv }) hO fun _ ho => .inl ho
    rsl := fun g hg => Nat.lt_of_lt_of_le (h.rsl g hg) hO.size
    bel := h.below hO }
theorem Cl.At.setKind {c : Cl} {w0 W : World} (h : c.At w0 W) (k : Int) : ({ c with kind := k } : Cl).At w0 (W.setCell ⟨c.p, 2, none⟩ (.int .i64 k)) :=
  h.setp { c with kind := k } rfl 2 _ (by simp [World.setCell, Array.getElem?_modify, h.hp, Cl.cells])
theorem Cl.At.setInv {c : Cl} {w0 W : World} (h : c.At w0 W) (b : Bool) : ({ c with inv := b } : Cl).At w0 (W.setCell ⟨c.p, 7, none⟩ (.bool b)) :=
  h.setp { c with inv := b } rfl 7 _ (by simp [World.setCell, Array.getElem?_modify, h.hp, Cl.cells])
/-- one key more. -/
theorem Cl.At.addKey {c : Cl} {w0 W w1 : World} (h : c.At w0 W) {o : Obj} {g cap : Nat} {key : List UInt8} (hown : w1.ownsRow w0.heap.size 9 1 (.slice (some ⟨g, 0, none⟩) (c.ks.length + 1) cap) (c.ks.length + 1) (wcells c.ks ++ [.string ⟨key.toArray⟩])) (hgr : (W.alloc o).grownBy w1 c.kv.ownBlock)
    (hat : c.kv.ownBlock = some g ∨ g = (W.alloc o).heap.size) (hl : c.ks.length < 1000) (hkl : key.length ≤ 1000000) :
    ({ c with kv := .slice (some ⟨g, 0, none⟩) (c.ks.length + 1) cap, ks := c.ks ++ [key] } : Cl).At w0 (w1.setCell ⟨c.p, 4, none⟩ (.slice (some ⟨g, 0, none⟩) (c.ks.length + 1) cap)) := by
  have hk1 : Keeps (fun k => c.kv.ownBlock ≠ some k) W w1 := ((Keeps.refl _ W).alloc o).trans (Keeps.of_grown hgr fun r e h => h e)
  have hk2 : Keeps (fun k => k ≠ c.p) w1 (w1.setCell ⟨c.p, 4, none⟩ (.slice (some ⟨g, 0, none⟩) (c.ks.length + 1) cap)) := setCell_keeps _ _ _ _
  have hO : Keeps (fun k => ¬ c.own k) W (w1.setCell ⟨c.p, 4, none⟩ (.slice (some ⟨g, 0, none⟩) (c.ks.length + 1) cap)) := (hk1.mono fun k _ ho e => ho (.inr (.inr (.inr (.inl e))))).trans (hk2.mono fun k _ ho e => ho (.inl e))
  have hp1 : w1.heap[c.p]? = some (.cells c.cells.toArray 84 (0, 0)) := hk1.heap h.hp h.kne.1
  have hgne : g ≠ c.p := fun e => by
    obtain ⟨_, cur, hg⟩ := ownsRow_blk hown g rfl
    rw [e, hp1] at hg
    injection hg with hg
    injection hg with h1 h2
    exact absurd h2 (by decide)
  have ho : ∀ x, ({ c with kv := .slice (some ⟨g, 0, none⟩) (c.ks.length + 1) cap, ks := c.ks ++ [key] } : Cl).own x → c.own x ∨ W.heap.size ≤ x := by
    rintro x (e | e | e | e | e)
    · exact .inl (.inl e)
    · exact .inl (.inr (.inl e))
    · exact .inl (.inr (.inr (.inl e)))
    · have e2 : g = x := by injection e
      subst e2
      rcases hat with hat | hat
      · exact .inl (.inr (.inr (.inr (.inl hat))))
      · rw [World.size_alloc] at hat
        exact .inr (by omega)
    · exact .inl (.inr (.inr (.inr (.inr e))))
  exact { h with
    hp := by simp [World.setCell, Array.getElem?_modify, hp1, Cl.cells]
    hb := h.hb.heap ((hk2.block _ (Nat.lt_of_lt_of_le h.lt.2.1 hk1.size) fun e => h.ne.1 e.symm).trans (hk1.block _ h.lt.2.1 h.kne.2.1))
    hi := h.hi.heap ((hk2.block _ (Nat.lt_of_lt_of_le h.lt.2.2 hk1.size) fun e => h.ne.2 e.symm).trans (hk1.block _ h.lt.2.2 h.kne.2.2))
    hW := h.words hO
    hn := ownsRow_keep h.hn fun g e => (hk2.block g (Nat.lt_of_lt_of_le (h.hn.lt g e).2 hk1.size) fun e2 => h.nne.1 (e2 ▸ e)).trans (hk1.block g (h.hn.lt g e).2 (h.nne.2.2.2 g e))
    hk := by
      have := ownsRow_keep hown fun x e => hk2.block x (hown.lt x e).2 fun e2 => hgne (by cases e; exact e2)
      simpa [wcells] using this
    kb := h.kb.kept hO (fun x hx => hx.elim (fun h1 => (ho x h1).imp .inl id) fun h1 => .inl (.inr h1))
    ki := h.ki.kept hO (fun x hx => hx.elim (fun h1 => (ho x h1).imp .inl id) fun h1 => .inl (.inr h1))
    rsl := fun g hg => Nat.lt_of_lt_of_le (h.rsl g hg) hO.size
    bel := h.below hO
    ksl := ⟨by simp; omega, fun s hs => by
      rcases List.mem_append.1 hs with hs | hs
      · exact h.ksl.2 s hs
      · rw [List.mem_singleton.1 hs]; exact hkl⟩ }
end Go.Proofs.YtokcbcjonbjkgaaGreatDoor
