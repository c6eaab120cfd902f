/- Iterators that keep state of their own: what an iterator may turn, what a round must keep, and the law of 'for x := range seq'. No program in it. The iterators of Seq once more, with rounds that may turn the caller's rows of bytes: what a round keeps of the iterator's own blocks is what is no row of bytes. No program in it. Iterators that hand over what they have laid, and leave a state behind: a round is told what holds of its element; behind the iterator the state of its own blocks (Pv) is told. No program in it. The law of ranges over such iterators, where the state behind the last round hangs on other blocks too. No program in it. -/
import Derived.Test.YtbkhnnjjpelfcaaGreatDoorSeq
import Derived.RangeFuncBox
import Derived.RangeFuncLeaves
import Derived.RangeFuncNested
import Derived.RangeFuncBound
import Derived.RangeFuncCalls
namespace Go.Proofs.YtbkhnnjjpelfcaaGreatDoor
open Go.RowKit

/-- no row of bytes. -/
def NB (W : World) (k : Nat) : Prop := ∀ c fz, W.heap[k]? ≠ some (.cells c 5 fz)
def KeepsN (D S : Nat → Prop) (A B : World) : Prop := Keeps (fun k => D k ∨ (S k ∧ NB A k)) A B

theorem KeepsN.refl (D S : Nat → Prop) (W : World) : KeepsN D S W W := Keeps.refl _ W
theorem KeepsN.trans {D S : Nat → Prop} {A B C : World} (h : KeepsN D S A B) (k : KeepsN D S B C) : KeepsN D S A C :=
  ⟨k.os.trans h.os, k.tape.trans h.tape, k.output.trans h.output, Nat.le_trans h.size k.size, fun i hi hs => by
    have e := h.block i hi hs
    refine (k.block i (Nat.lt_of_lt_of_le hi h.size) (hs.imp id fun hs => ⟨hs.1, fun c fz hc => hs.2 c fz (e ▸ hc)⟩)).trans e⟩
theorem KeepsN.mono {D S S' : Nat → Prop} {A B : World} (h : KeepsN D S A B) (hs : ∀ k, S' k → S k) : KeepsN D S' A B := Keeps.mono h fun k _ h => h.imp id fun h => ⟨hs k h.1, h.2⟩
theorem KeepsN.of_keeps {D S : Nat → Prop} {A B : World} (h : Keeps (fun k => D k ∨ S k) A B) : KeepsN D S A B := h.mono fun _ _ h => h.imp id And.left
theorem KeepsN.alloc {D S : Nat → Prop} {A B : World} (h : KeepsN D S A B) (o : Obj) : KeepsN D S A (B.alloc o) := Keeps.alloc h o
theorem KeepsN.setCell {D S : Nat → Prop} {A B : World} (h : KeepsN D S A B) {p : Addr} (hp : A.heap.size ≤ p.block ∨ ¬ (D p.block ∨ S p.block)) (v : Value) : KeepsN D S A (B.setCell p v) :=
  Keeps.setCell h (hp.imp id fun h e => h (e.imp id And.left)) v
theorem KeepsN.putObj {D S : Nat → Prop} {A B : World} (h : KeepsN D S A B) {l : Nat} (hl : ¬ (D l ∨ S l)) (o : Obj) : KeepsN D S A (B.putObj l o) := Keeps.putObj h (fun e => hl (e.imp id And.left)) o
theorem KeepsN.heap {D S : Nat → Prop} {A B : World} (h : KeepsN D S A B) {k : Nat} {o : Obj} (hk : A.heap[k]? = some o) (hs : D k ∨ (S k ∧ ∀ c fz, o ≠ .cells c 5 fz)) : B.heap[k]? = some o :=
  Keeps.heap h hk (hs.imp id fun hs => ⟨hs.1, fun c fz hc => hs.2 c fz (Option.some.inj (hk.symm.trans hc))⟩)
theorem KeepsN.size {D S : Nat → Prop} {A B : World} (h : KeepsN D S A B) : A.heap.size ≤ B.heap.size := Keeps.size h

/-- the caller's blocks behind a round: what were his, what was laid in it, and rows of bytes from B on. -/
def GrowsN (B : Nat) (O O' : Nat → Prop) (W W' : World) : Prop := ∀ k, O' k → k < W'.heap.size ∧ (O k ∨ W.heap.size ≤ k ∨ (B ≤ k ∧ ¬ NB W k))

theorem GrowsN.same {B : Nat} {O : Nat → Prop} {A C : World} (h : ∀ k, O k → k < C.heap.size) : GrowsN B O O A C := fun k hk => ⟨h k hk, .inl hk⟩

/-- an iterator's own blocks: Pv, and those from B on that are not the caller's. -/
def OwnS (Pv : Nat → Prop) (B : Nat) (O : Nat → Prop) (k : Nat) : Prop := Pv k ∨ (B ≤ k ∧ ¬ O k)

/-- AN ITERATOR's CONTRACT: called with a yield whose rounds carry J on and keep what they must, it hands out what S says; or, where a round has said 'no more', a part. -/
def SeqN {α : Type} (st : Bool) (P : Program) (g : Nat) (lb : Array Value) (encs : α → Array Value) (Dt Pv : Nat → Prop) (S Sp : List α → Prop) (N : Nat) (w : World) : Prop :=
  ∀ (l : Nat) (J Jx : (Nat → Prop) → List α → World → Prop) (W : World), Below w.heap.size w W → AbidesT W.heap.size Pv J → AbidesT W.heap.size Pv Jx → (st = false → ∀ O s A, ¬ Jx O s A) →
    (∀ O pre x W1, (∀ k, O k → W.heap.size ≤ k ∧ k < W1.heap.size) → W.heap.size ≤ W1.heap.size → J O pre W1 → pre.length < N → YieldAt Fence.wide 0 P l (encs x) W1 fun e W' =>
      KeepsN Dt (OwnS Pv W.heap.size O) W1 W' ∧ ∃ O', GrowsN W.heap.size O O' W1 W' ∧ ((e = .returned (.bool true) ∧ J O' (pre ++ [x]) W') ∨ (e = .returned (.bool false) ∧ Jx O' (pre ++ [x]) W'))) →
    J (fun _ => False) [] W →
    CallsIn Fence.wide 0 P g (#[.func (.yield l) #[] #[]] ++ lb) W fun e W' => (∃ v, e = .returned v) ∧ W.heap.size ≤ W'.heap.size ∧ ∃ O, (∀ k, O k → W.heap.size ≤ k ∧ k < W'.heap.size) ∧
      ((∃ xs, S xs ∧ J O xs W') ∨ (∃ pre, Sp pre ∧ Jx O pre W'))

/-- how the body of a round may be left. -/
def ownPostN {α : Type} (B : Nat) (D R : Nat → Prop) (O : Nat → Prop) (I : (Nat → Prop) → List α → World → Prop) (Ix : Code → (Nat → Prop) → List α → World → Prop) (xs : List α) (W : World) : Exit → Act → World → Prop
  | .normal, _, W' => KeepsN D R W W' ∧ ∃ O', GrowsN B O O' W W' ∧ I O' xs W'
  | .ret, _, W' => KeepsN D R W W' ∧ ∃ O', GrowsN B O O' W W' ∧ Ix .ret O' xs W'
  | .exit id, _, W' => KeepsN D R W W' ∧ ∃ O', GrowsN B O O' W W' ∧ Ix (.exit id) O' xs W'
  | .goto t, _, W' => KeepsN D R W W' ∧ ∃ O', GrowsN B O O' W W' ∧ Ix (.goto t) O' xs W'
  | .panic _, _, _ => False
  | .outgrown, _, _ => False

variable {P : Program}

/-- THE STATEMENT 'for x := range seq' over such an iterator. -/
theorem wpIn_rangeN {α : Type} {g : Operand} {ps : Array Tmp} {assign body : Code} {Q : Exit → Act → World → Prop} {a : Act} {w : World}
    {gf : Nat} {lb : Array Value} (hg : a.eval g = .func (.func gf) #[] lb) (eg : ∀ args w, (callFunc gf args).run P w = .ok (.enter gf args) w)
    {encs : α → Array Value} {st : Bool} {Dt Pv : Nat → Prop} {S Sp : List α → Prop} {N : Nat} {w0 : World} (hseq : SeqN st P gf lb encs Dt Pv S Sp N w0)
    (hb0 : Below w0.heap.size w0 w) (hDt : ∀ k, Dt k → k < w.heap.size) (hPv : ∀ k, Pv k → k < w.heap.size) (hps : ∀ x, (encs x).size = ps.size)
    (I : (Nat → Prop) → List α → World → Prop) (Ix : Code → (Nat → Prop) → List α → World → Prop) (hI : AbidesT w.heap.size Pv I) (hIx : ∀ c, AbidesT w.heap.size Pv (Ix c)) (hst : st = false → ∀ c O s A, ¬ Ix c O s A)
    (h0 : I (fun _ => False) [] w) (Ax : (Nat → Prop) → α → Act → World → Prop) (hAx : ∀ O x a' A C, Ax O x a' A → Keeps (fun k => k ≠ w.heap.size + 1) A C → Ax O x a' C)
    (hassign : ∀ (O : Nat → Prop) (pre : List α) (x : α) (W : World) (K : Act → World → Prop), (∀ k, O k → w.heap.size + 2 ≤ k ∧ k < W.heap.size) → w.heap.size + 2 ≤ W.heap.size → I O pre W →
      (∀ a' W', KeepsN Dt (OwnS Pv w.heap.size O) W W' → I O pre W' → Ax O x a' W' → K a' W') →
      assign.wpIn (Fence.wide.inRound (w.heap.size + 1)) 0 P (Exit.then K (fun _ _ _ => False)) { tmps := (ps.zip (encs x)).foldl (fun t (p, v) => t.setIfInBounds p v) a.tmps, defers := [] } W)
    (hbody : ∀ (O : Nat → Prop) (pre : List α) (x : α) (a' : Act) (W : World), (∀ k, O k → w.heap.size + 2 ≤ k ∧ k < W.heap.size) → w.heap.size + 2 ≤ W.heap.size → (∃ r, W.heap[w.heap.size + 1]? = some (.loop r)) → I O pre W → Ax O x a' W → pre.length < N →
      body.wpIn (Fence.wide.inRound (w.heap.size + 1)) 0 P (ownPostN (w.heap.size + 2) Dt (OwnS Pv w.heap.size O) O I Ix (pre ++ [x]) W) a' W)
    (hdone : ∀ (O : Nat → Prop) (D : Nat) (xs : List α) (W : World), w.heap.size ≤ D → D < W.heap.size → (∀ k, O k → D < k ∧ k < W.heap.size) → ¬ Pv D → S xs → I O xs W → W.heap[D]? = some (.deferred (some [])) → Q .normal { a with defers := { target := .collected D, args := #[] } :: a.defers } W)
    (hstop : ∀ (O : Nat → Prop) (D : Nat) (c : Code) (pre : List α) (W : World), w.heap.size ≤ D → D < W.heap.size → (∀ k, O k → D < k ∧ k < W.heap.size) → ¬ Pv D → Sp pre → Ix c O pre W → W.heap[D]? = some (.deferred (some [])) → c.wpIn Fence.wide 0 P Q { a with defers := { target := .collected D, args := #[] } :: a.defers } W) :
    (Code.rangeFunc g ps assign body).wpIn Fence.wide 0 P Q a w := by
  refine wpIn_rangeFunc ?_
  intro fn hfn
  obtain ⟨b, hb⟩ : ∃ b, w.heap.size = b := ⟨_, rfl⟩
  obtain ⟨rec, hrec⟩ : ∃ rec : LoopState → Option Code → Loop, rec = fun st pe => { state := st, pending := pe, fn, tmps := a.tmps, params := ps, assign, body, defers := w.heap.size } := ⟨_, rfl⟩
  obtain ⟨W1, hW1⟩ : ∃ W1, (w.alloc (.deferred (some []))).alloc (.loop (rec .ready none)) = W1 := ⟨_, rfl⟩
  have hs1 : W1.heap.size = b + 2 := by rw [← hW1, ← hb]; simp
  have hL1 : W1.heap[b + 1]? = some (.loop (rec .ready none)) := by
    rw [← hW1, ← hb]
    have := World.alloc_heap_new (w.alloc (.deferred (some []))) (.loop (rec .ready none))
    rwa [World.size_alloc] at this
  have hD1 : W1.heap[b]? = some (.deferred (some [])) := by
    rw [← hW1, ← hb]
    exact (Below.heap_alloc _ _ _ (by simp)).trans (World.alloc_heap_new w _)
  have hk1 : ∀ R, Keeps R w W1 := fun R => by rw [← hW1]; exact ((Keeps.refl R w).alloc _).alloc _
  have hbW : Below w0.heap.size w0 W1 := by
    rw [← hW1]
    exact hb0.trans ((((Below.refl _ w).alloc (Nat.le_refl _) _).alloc (by simp) _).mono hb0.size)
  have nPl : ¬ Pv (b + 1) := fun h => by have := hPv _ h; omega
  have nPd : ¬ Pv b := fun h => by have := hPv _ h; omega
  have inI : ∀ {O : Nat → Prop} {k : Nat}, IterS Pv b O k → IterS Pv (b + 2) O k := fun h => ⟨h.1, h.2.elim (fun h => .inl (by omega)) .inr⟩
  -- a turn of the loop's record alone is abided
  have nS : ∀ {O : Nat → Prop}, (∀ k, O k → b + 2 ≤ k) → ¬ IterS Pv b O (b + 1) := fun hO h => by
    rcases h.2 with h | h
    · omega
    · have := hO _ h; omega
  have putI : ∀ {O : Nat → Prop} {s : List α} {W : World} (o : Obj), (∀ k, O k → b + 2 ≤ k) → I O s W → I O s (W.putObj (b + 1) o) := fun o hO h =>
    hI _ _ _ _ h (by rw [hb]; exact (Keeps.refl _ _).putObj (nS hO) o)
  have putIx : ∀ {c : Code} {O : Nat → Prop} {s : List α} {W : World} (o : Obj), (∀ k, O k → b + 2 ≤ k) → Ix c O s W → Ix c O s (W.putObj (b + 1) o) := fun o hO h =>
    hIx _ _ _ _ _ h (by rw [hb]; exact (Keeps.refl _ _).putObj (nS hO) o)
  have putA : ∀ {a' : Act} {O : Nat → Prop} {x : α} {W : World} (o : Obj), Ax O x a' W → Ax O x a' (W.putObj (b + 1) o) := fun {a'} _ _ _ o h =>
    hAx _ _ a' _ _ h ((Keeps.refl _ _).putObj (fun h => h (by rw [hb])) o)
  have putD : ∀ {W : World} (o : Obj), W.heap[b]? = some (.deferred (some [])) → (W.putObj (b + 1) o).heap[b]? = some (.deferred (some [])) := fun o h => (World.putObj_heap_other (by omega)).trans h
  rw [hb] at hI hIx hassign hbody hdone hstop
  refine ⟨b + 1, [{ target := .collected b, args := #[] }], W1, { target := .fn (.func gf) lb, args := #[.func (.yield (b + 1)) #[] #[]] }, W1, gf,
    #[.func (.yield (b + 1)) #[] #[]] ++ lb, W1, ?_, ?_, fun _ _ => trivial, ?_, fun h => by simp [Fence.wide] at h, ?_⟩
  · rw [← hW1, hrec, ← hb]; exact run_enterLoop_outer _ _ _ _ _
  · simp only [resolve, hg]
    simp [go_sem]
  · simp [invoke, go_sem, eg]
  refine (hseq (b + 1)
    (fun O pre W => (∀ k, O k → b + 2 ≤ k) ∧ I O pre W ∧ W.heap[b + 1]? = some (.loop (rec .ready none)) ∧ W.heap[b]? = some (.deferred (some [])))
    (fun O pre W => (∀ k, O k → b + 2 ≤ k) ∧ ∃ c, Ix c O pre W ∧ W.heap[b + 1]? = some (.loop (rec .done (some c))) ∧ W.heap[b]? = some (.deferred (some [])))
    W1 hbW ?_ ?_ ?_ ?_ ?_).mono ?_
  · rintro O s A C ⟨hO, hi, hl, hd⟩ hk
    rw [hs1] at hk
    exact ⟨hO, hI _ _ _ _ hi (hk.mono fun k _ h => inI h), hk.heap hl ⟨nPl, .inl (by omega)⟩, hk.heap hd ⟨nPd, .inl (by omega)⟩⟩
  · rintro O s A C ⟨hO, c, hi, hl, hd⟩ hk
    rw [hs1] at hk
    exact ⟨hO, c, hIx _ _ _ _ _ hi (hk.mono fun k _ h => inI h), hk.heap hl ⟨nPl, .inl (by omega)⟩, hk.heap hd ⟨nPd, .inl (by omega)⟩⟩
  · rintro e O s A ⟨_, c, h, _⟩
    exact hst e c O s A h
  · -- one round
    rintro O pre x W hOW hWs ⟨hO, hi, hl, hd⟩ hlen
    rw [hs1] at hOW hWs ⊢
    have hy := run_yield (P := P) (args := encs x) hl (by rw [hrec]; exact hps x)
    rw [hrec] at hy
    refine ⟨fn, _, assign, body, hy, roundIn_of_wpIn hfn (hassign O pre x W _ (fun k hk => ⟨hO k hk, (hOW k hk).2⟩) hWs hi ?_)⟩
    intro a' Wa hka hia hax
    have inR : OwnS Pv b O (b + 1) := .inr ⟨by omega, fun h => by have := hO _ h; omega⟩
    have inD : OwnS Pv b O b := .inr ⟨by omega, fun h => by have := hO _ h; omega⟩
    have hla := hka.heap hl (.inr ⟨inR, fun _ _ h => by cases h⟩)
    have hda := hka.heap hd (.inr ⟨inD, fun _ _ h => by cases h⟩)
    refine ⟨_, run_beginRound hla (by rw [hrec]), ?_⟩
    have hlt : b + 1 < Wa.heap.size := (Array.getElem?_eq_some_iff.1 hla).1
    have hl2 : (Wa.putObj (b + 1) (.loop { rec .ready none with state := .busy })).heap[b + 1]? = some (.loop { rec .ready none with state := .busy }) := World.putObj_heap_same hlt
    have hd2 := putD (.loop { rec .ready none with state := .busy }) hda
    have hTa : W.heap.size ≤ (Wa.putObj (b + 1) (.loop { rec .ready none with state := .busy })).heap.size := by
      have h1 := hka.size
      have h2 := (grownBy_putObj' Wa (b + 1) (.loop { rec .ready none with state := .busy })).size
      omega
    refine wpIn_mono (hbody O pre x a' _ (fun k hk => ⟨hO k hk, Nat.lt_of_lt_of_le (hOW k hk).2 hTa⟩) (Nat.le_trans hWs hTa) ⟨_, hl2⟩ (putI _ hO hia) (putA _ hax) hlen) ?_
    -- what a round leaves: the record's new state
    have fin : ∀ (jump : Option Code) (W3 : World) (O' : Nat → Prop), KeepsN Dt (OwnS Pv b O) (Wa.putObj (b + 1) (.loop { rec .ready none with state := .busy })) W3 → GrowsN (b + 2) O O' (Wa.putObj (b + 1) (.loop { rec .ready none with state := .busy })) W3 →
        ∃ W4, (Instr.endRound (b + 1) jump).run P W3 = .ok (.bool jump.isNone) W4 ∧ W4 = W3.putObj (b + 1) (.loop (rec (if jump.isNone then .ready else .done) jump)) ∧
          W4.heap[b + 1]? = some (.loop (rec (if jump.isNone then .ready else .done) jump)) ∧ W4.heap[b]? = some (.deferred (some [])) ∧ KeepsN Dt (OwnS Pv (b + 2) O) W W4 ∧ GrowsN (b + 2) O O' W W4 ∧ (∀ k, O' k → b + 2 ≤ k) := fun jump W3 O' hk3 hg3 => by
      have hl3 := hk3.heap hl2 (.inr ⟨inR, fun _ _ h => by cases h⟩)
      have hd3 := hk3.heap hd2 (.inr ⟨inD, fun _ _ h => by cases h⟩)
      have he := run_endRound (P := P) jump hl3
      rw [hrec] at he
      refine ⟨_, he, by rw [hrec], ?_, putD _ hd3, ?_, ?_, ?_⟩
      · rw [hrec]; exact World.putObj_heap_same (Array.getElem?_eq_some_iff.1 hl3).1
      · have sub : ∀ k, OwnS Pv (b + 2) O k → OwnS Pv b O k := fun k h => h.imp id fun h => ⟨by omega, h.2⟩
        have nl : ¬ (Dt (b + 1) ∨ OwnS Pv (b + 2) O (b + 1)) := by
          rintro (h | h | h)
          · have := hDt _ h; omega
          · exact nPl h
          · omega
        exact (((hka.mono sub).putObj nl _).trans (hk3.mono sub)).putObj nl _
      · intro k hk
        obtain ⟨h1, h2⟩ := hg3 k hk
        refine ⟨Nat.lt_of_lt_of_le h1 (grownBy_putObj' _ _ _).size, ?_⟩
        rcases h2 with h2 | h2 | ⟨h2, h3⟩
        · exact .inl h2
        · exact .inr (.inl (Nat.le_trans hTa h2))
        · by_cases hok : O k
          · exact .inl hok
          · by_cases hsz : W.heap.size ≤ k
            · exact .inr (.inl hsz)
            · refine .inr (.inr ⟨h2, fun hnb => h3 ?_⟩)
              have e1 := hka.block k (by omega) (.inr ⟨.inr ⟨by omega, hok⟩, hnb⟩)
              intro c fz hc
              rw [World.putObj_heap_other (by omega)] at hc
              exact hnb c fz (e1 ▸ hc)
      · intro k hk
        rcases (hg3 k hk).2 with h | h | h
        · exact hO _ h
        · omega
        · exact h.1
    rintro e a3 W3 hp
    cases e with
    | normal =>
      obtain ⟨hk3, O', hg3, hi3⟩ := hp
      obtain ⟨W4, hr, rfl, hl4, hd4, hk4, hg4, hO4⟩ := fin none W3 O' hk3 hg3
      exact ⟨_, _, hr, hk4, O', hg4, .inl ⟨rfl, hO4, putI _ hO4 hi3, hl4, hd4⟩⟩
    | ret =>
      obtain ⟨hk3, O', hg3, hi3⟩ := hp
      obtain ⟨W4, hr, rfl, hl4, hd4, hk4, hg4, hO4⟩ := fin (some .ret) W3 O' hk3 hg3
      exact ⟨_, _, hr, hk4, O', hg4, .inr ⟨rfl, hO4, _, putIx _ hO4 hi3, hl4, hd4⟩⟩
    | exit id =>
      obtain ⟨hk3, O', hg3, hi3⟩ := hp
      obtain ⟨W4, hr, rfl, hl4, hd4, hk4, hg4, hO4⟩ := fin (some (.exit id)) W3 O' hk3 hg3
      exact ⟨_, _, hr, hk4, O', hg4, .inr ⟨rfl, hO4, _, putIx _ hO4 hi3, hl4, hd4⟩⟩
    | goto t =>
      obtain ⟨hk3, O', hg3, hi3⟩ := hp
      obtain ⟨W4, hr, rfl, hl4, hd4, hk4, hg4, hO4⟩ := fin (some (.goto t)) W3 O' hk3 hg3
      exact ⟨_, _, hr, hk4, O', hg4, .inr ⟨rfl, hO4, _, putIx _ hO4 hi3, hl4, hd4⟩⟩
    | panic ch => exact hp.elim
    | outgrown => exact hp.elim
  · exact ⟨fun _ h => h.elim, hI _ _ _ _ h0 (hk1 _), hL1, hD1⟩
  · -- behind the iterator
    rintro e W2 ⟨⟨v, rfl⟩, hsz, O, hO2, (⟨xs, hS, hO, hi, hl, hd⟩ | ⟨pre, hSp, hO, c, hi, hl, hd⟩)⟩
    · refine ⟨none, _, by have := run_endLoop (P := P) hl (by rw [hrec]; simp); rw [hrec] at this; exact this, ?_⟩
      exact hdone O b xs _ (Nat.le_refl _) (Nat.lt_of_lt_of_le (Array.getElem?_eq_some_iff.1 hd).1 (grownBy_putObj' _ _ _).size) (fun k hk => ⟨by have := hO k hk; omega, Nat.lt_of_lt_of_le (hO2 k hk).2 (grownBy_putObj' _ _ _).size⟩) nPd hS (putI _ hO hi) (putD _ hd)
    · refine ⟨some c, _, by have := run_endLoop (P := P) hl (by rw [hrec]; simp); rw [hrec] at this; exact this, ?_⟩
      exact hstop O b c pre _ (Nat.le_refl _) (Nat.lt_of_lt_of_le (Array.getElem?_eq_some_iff.1 hd).1 (grownBy_putObj' _ _ _).size) (fun k hk => ⟨by have := hO k hk; omega, Nat.lt_of_lt_of_le (hO2 k hk).2 (grownBy_putObj' _ _ _).size⟩) nPd hSp (putIx _ hO hi) (putD _ hd)

end Go.Proofs.YtbkhnnjjpelfcaaGreatDoor
namespace Go.Proofs.YtbkhnnjjpelfcaaGreatDoor
open Go.RowKit

def AbidesP {β : Type} (Pv : Nat → Prop) (J : β → World → Prop) : Prop := ∀ s A C, J s A → Keeps (fun k => ¬ Pv k) A C → J s C

/-- AN ITERATOR's CONTRACT: it turns Pv alone of what lay, and a round keeps Pv and Dt; T: what is told of an element, S: what is told of all and of Pv behind the last one. -/
def SeqP {α : Type} (P : Program) (g : Nat) (lb : Array Value) (encs : α → Array Value) (Dt Pv : Nat → Prop) (T : Nat → α → World → Prop) (S : List α → World → Prop) (Sp : List α → Prop) (N : Nat) (w : World) : Prop :=
  ∀ (l : Nat) (J Jx : List α → World → Prop) (W : World), Below w.heap.size w W → AbidesP Pv J → AbidesP Pv Jx →
    (∀ pre x W1, W.heap.size ≤ W1.heap.size → J pre W1 → (∃ W0, W.heap.size ≤ W0.heap.size ∧ J pre W0 ∧ Keeps (fun k => ¬ Pv k) W0 W1 ∧ T W0.heap.size x W1) → pre.length < N → YieldAt Fence.wide 0 P l (encs x) W1 fun e W' =>
      Keeps (fun k => Dt k ∨ Pv k) W1 W' ∧ ((e = .returned (.bool true) ∧ J (pre ++ [x]) W') ∨ (e = .returned (.bool false) ∧ Jx (pre ++ [x]) W'))) →
    J [] W →
    CallsIn Fence.wide 0 P g (#[.func (.yield l) #[] #[]] ++ lb) W fun e W' => (∃ v, e = .returned v) ∧ W.heap.size ≤ W'.heap.size ∧ ((∃ xs, S xs W' ∧ J xs W') ∨ (∃ pre, Sp pre ∧ Jx pre W'))

/-- how the body of a round may be left. -/
def ownPostP {α : Type} (R : Nat → Prop) (I : List α → World → Prop) (Ix : Code → List α → World → Prop) (xs : List α) (W : World) : Exit → Act → World → Prop
  | .normal, _, W' => Keeps R W W' ∧ I xs W'
  | .ret, _, W' => Keeps R W W' ∧ Ix .ret xs W'
  | .exit id, _, W' => Keeps R W W' ∧ Ix (.exit id) xs W'
  | .goto t, _, W' => Keeps R W W' ∧ Ix (.goto t) xs W'
  | .panic _, _, _ => False
  | .outgrown, _, _ => False

/-- what a body must keep: the iterator's data, its own blocks, the loop's record and its deferred row. -/
def BodyS (Dt Pv : Nat → Prop) (b k : Nat) : Prop := Dt k ∨ Pv k ∨ k = b ∨ k = b + 1

variable {P : Program}

end Go.Proofs.YtbkhnnjjpelfcaaGreatDoor
namespace Go.Proofs.YtbkhnnjjpelfcaaGreatDoor
open Go.RowKit

variable {P : Program}

theorem wpIn_rangeQ {α : Type} {g : Operand} {ps : Array Tmp} {assign body : Code} {Q : Exit → Act → World → Prop} {a : Act} {w : World}
    {gf : Nat} {lb : Array Value} (hg : a.eval g = .func (.func gf) #[] lb) (eg : ∀ args w, (callFunc gf args).run P w = .ok (.enter gf args) w)
    {encs : α → Array Value} {Dt Pv : Nat → Prop} {T : Nat → α → World → Prop} {S : List α → World → Prop} {Sp : List α → Prop} {N : Nat} {w0 : World} (hseq : SeqP P gf lb encs Dt Pv T S Sp N w0)
    (hb0 : Below w0.heap.size w0 w) (hDt : ∀ k, Dt k → k < w.heap.size) (hPv : ∀ k, Pv k → k < w.heap.size) (hps : ∀ x, (encs x).size = ps.size)
    (hS : ∀ xs A C, S xs A → Keeps (fun k => k ≠ w.heap.size + 1) A C → S xs C) (hT : ∀ b x A C, w.heap.size + 2 ≤ b → T b x A → Keeps (fun k => k ≠ w.heap.size + 1) A C → T b x C)
    (I : List α → World → Prop) (Ix : Code → List α → World → Prop) (hI : AbidesP Pv I) (hIx : ∀ c, AbidesP Pv (Ix c))
    (hIl : ∀ s A C, I s A → Keeps (fun k => k ≠ w.heap.size + 1) A C → I s C) (hIxl : ∀ c s A C, Ix c s A → Keeps (fun k => k ≠ w.heap.size + 1) A C → Ix c s C)
    (h0 : I [] w) (Ax : α → Act → World → Prop) (hAx : ∀ x a' A C, Ax x a' A → Keeps (fun k => k ≠ w.heap.size + 1) A C → Ax x a' C)
    (hassign : ∀ (pre : List α) (x : α) (W : World) (K : Act → World → Prop), w.heap.size + 2 ≤ W.heap.size → I pre W →
      (∀ a' W', Keeps (fun _ => True) W W' → I pre W' → Ax x a' W' → K a' W') →
      assign.wpIn (Fence.wide.inRound (w.heap.size + 1)) 0 P (Exit.then K (fun _ _ _ => False)) { tmps := (ps.zip (encs x)).foldl (fun t (p, v) => t.setIfInBounds p v) a.tmps, defers := [] } W)
    (hbody : ∀ (pre : List α) (x : α) (a' : Act) (W : World), w.heap.size + 2 ≤ W.heap.size → (∃ r, W.heap[w.heap.size + 1]? = some (.loop r)) → I pre W → Ax x a' W → (∃ W0, w.heap.size + 2 ≤ W0.heap.size ∧ I pre W0 ∧ Keeps (fun k => ¬ Pv k ∧ k ≠ w.heap.size + 1) W0 W ∧ T W0.heap.size x W) → pre.length < N →
      body.wpIn (Fence.wide.inRound (w.heap.size + 1)) 0 P (ownPostP (BodyS Dt Pv w.heap.size) I Ix (pre ++ [x]) W) a' W)
    (hdone : ∀ (D : Nat) (xs : List α) (W : World), D = w.heap.size → D < W.heap.size → ¬ Pv D → S xs W → I xs W → W.heap[D]? = some (.deferred (some [])) → Q .normal { a with defers := { target := .collected D, args := #[] } :: a.defers } W)
    (hstop : ∀ (D : Nat) (c : Code) (pre : List α) (W : World), D = w.heap.size → D < W.heap.size → ¬ Pv D → Sp pre → Ix c pre W → W.heap[D]? = some (.deferred (some [])) → c.wpIn Fence.wide 0 P Q { a with defers := { target := .collected D, args := #[] } :: a.defers } W) :
    (Code.rangeFunc g ps assign body).wpIn Fence.wide 0 P Q a w := by
  refine wpIn_rangeFunc ?_
  intro fn hfn
  obtain ⟨b, hb⟩ : ∃ b, w.heap.size = b := ⟨_, rfl⟩
  obtain ⟨rec, hrec⟩ : ∃ rec : LoopState → Option Code → Loop, rec = fun st pe => { state := st, pending := pe, fn, tmps := a.tmps, params := ps, assign, body, defers := w.heap.size } := ⟨_, rfl⟩
  obtain ⟨W1, hW1⟩ : ∃ W1, (w.alloc (.deferred (some []))).alloc (.loop (rec .ready none)) = W1 := ⟨_, rfl⟩
  have hs1 : W1.heap.size = b + 2 := by rw [← hW1, ← hb]; simp
  have hL1 : W1.heap[b + 1]? = some (.loop (rec .ready none)) := by
    rw [← hW1, ← hb]
    have := World.alloc_heap_new (w.alloc (.deferred (some []))) (.loop (rec .ready none))
    rwa [World.size_alloc] at this
  have hD1 : W1.heap[b]? = some (.deferred (some [])) := by
    rw [← hW1, ← hb]
    exact (Below.heap_alloc _ _ _ (by simp)).trans (World.alloc_heap_new w _)
  have hk1 : ∀ R, Keeps R w W1 := fun R => by rw [← hW1]; exact ((Keeps.refl R w).alloc _).alloc _
  have hbW : Below w0.heap.size w0 W1 := by
    rw [← hW1]
    exact hb0.trans ((((Below.refl _ w).alloc (Nat.le_refl _) _).alloc (by simp) _).mono hb0.size)
  have nPl : ¬ Pv (b + 1) := fun h => by have := hPv _ h; omega
  have nPd : ¬ Pv b := fun h => by have := hPv _ h; omega
  rw [hb] at hS hT hIl hIxl hAx hassign hbody hdone hstop
  have putI : ∀ {s : List α} {W : World} (o : Obj), I s W → I s (W.putObj (b + 1) o) := fun o h => hIl _ _ _ h ((Keeps.refl _ _).putObj (fun h => h rfl) o)
  have putIx : ∀ {c : Code} {s : List α} {W : World} (o : Obj), Ix c s W → Ix c s (W.putObj (b + 1) o) := fun o h => hIxl _ _ _ _ h ((Keeps.refl _ _).putObj (fun h => h rfl) o)
  have putA : ∀ {a' : Act} {x : α} {W : World} (o : Obj), Ax x a' W → Ax x a' (W.putObj (b + 1) o) := fun {a'} _ _ o h => hAx _ a' _ _ h ((Keeps.refl _ _).putObj (fun h => h rfl) o)
  have putT : ∀ {c : Nat} {x : α} {W : World} (o : Obj), b + 2 ≤ c → T c x W → T c x (W.putObj (b + 1) o) := fun o hc h => hT _ _ _ _ hc h ((Keeps.refl _ _).putObj (fun h => h rfl) o)
  have putS : ∀ {xs : List α} {W : World} (o : Obj), S xs W → S xs (W.putObj (b + 1) o) := fun o h => hS _ _ _ h ((Keeps.refl _ _).putObj (fun h => h rfl) o)
  have putD : ∀ {W : World} (o : Obj), W.heap[b]? = some (.deferred (some [])) → (W.putObj (b + 1) o).heap[b]? = some (.deferred (some [])) := fun o h => (World.putObj_heap_other (by omega)).trans h
  refine ⟨b + 1, [{ target := .collected b, args := #[] }], W1, { target := .fn (.func gf) lb, args := #[.func (.yield (b + 1)) #[] #[]] }, W1, gf,
    #[.func (.yield (b + 1)) #[] #[]] ++ lb, W1, ?_, ?_, fun _ _ => trivial, ?_, fun h => by simp [Fence.wide] at h, ?_⟩
  · rw [← hW1, hrec, ← hb]; exact run_enterLoop_outer _ _ _ _ _
  · simp only [resolve, hg]
    simp [go_sem]
  · simp [invoke, go_sem, eg]
  refine (hseq (b + 1)
    (fun pre W => I pre W ∧ W.heap[b + 1]? = some (.loop (rec .ready none)) ∧ W.heap[b]? = some (.deferred (some [])))
    (fun pre W => ∃ c, Ix c pre W ∧ W.heap[b + 1]? = some (.loop (rec .done (some c))) ∧ W.heap[b]? = some (.deferred (some [])))
    W1 hbW ?_ ?_ ?_ ?_).mono ?_
  · rintro s A C ⟨hi, hl, hd⟩ hk
    exact ⟨hI _ _ _ hi hk, hk.heap hl nPl, hk.heap hd nPd⟩
  · rintro s A C ⟨c, hi, hl, hd⟩ hk
    exact ⟨c, hIx _ _ _ _ hi hk, hk.heap hl nPl, hk.heap hd nPd⟩
  · -- one round
    rintro pre x W hWs ⟨hi, hl, hd⟩ hTx hlen
    obtain ⟨W0, hW0, ⟨hi0, -, -⟩, hk0, hTx⟩ := hTx
    rw [hs1] at hWs hW0
    have hy := run_yield (P := P) (args := encs x) hl (by rw [hrec]; exact hps x)
    rw [hrec] at hy
    refine ⟨fn, _, assign, body, hy, roundIn_of_wpIn hfn (hassign pre x W _ hWs hi ?_)⟩
    intro a' Wa hka hia hax
    have hla := hka.heap hl trivial
    have hda := hka.heap hd trivial
    have hTa := hT _ _ _ _ hW0 hTx (hka.mono fun _ _ _ => trivial)
    refine ⟨_, run_beginRound hla (by rw [hrec]), ?_⟩
    have hlt : b + 1 < Wa.heap.size := (Array.getElem?_eq_some_iff.1 hla).1
    have hl2 : (Wa.putObj (b + 1) (.loop { rec .ready none with state := .busy })).heap[b + 1]? = some (.loop { rec .ready none with state := .busy }) := World.putObj_heap_same hlt
    have hd2 := putD (.loop { rec .ready none with state := .busy }) hda
    have hTs : W.heap.size ≤ (Wa.putObj (b + 1) (.loop { rec .ready none with state := .busy })).heap.size := by
      have h1 := hka.size
      have h2 := (grownBy_putObj' Wa (b + 1) (.loop { rec .ready none with state := .busy })).size
      omega
    refine wpIn_mono (hbody pre x a' _ (Nat.le_trans hWs hTs) ⟨_, hl2⟩ (putI _ hia) (putA _ hax) ⟨W0, hW0, hi0, ((hk0.mono fun _ _ h => h.1).trans (hka.mono fun _ _ _ => trivial)).putObj (fun h => h.2 rfl) _, putT _ hW0 hTa⟩ hlen) ?_
    have fin : ∀ (jump : Option Code) (W3 : World), Keeps (BodyS Dt Pv b) (Wa.putObj (b + 1) (.loop { rec .ready none with state := .busy })) W3 →
        ∃ W4, (Instr.endRound (b + 1) jump).run P W3 = .ok (.bool jump.isNone) W4 ∧ W4 = W3.putObj (b + 1) (.loop (rec (if jump.isNone then .ready else .done) jump)) ∧
          W4.heap[b + 1]? = some (.loop (rec (if jump.isNone then .ready else .done) jump)) ∧ W4.heap[b]? = some (.deferred (some [])) ∧ Keeps (fun k => Dt k ∨ Pv k) W W4 := fun jump W3 hk3 => by
      have hl3 := hk3.heap hl2 (.inr (.inr (.inr rfl)))
      have hd3 := hk3.heap hd2 (.inr (.inr (.inl rfl)))
      have he := run_endRound (P := P) jump hl3
      rw [hrec] at he
      refine ⟨_, he, by rw [hrec], ?_, putD _ hd3, ?_⟩
      · rw [hrec]; exact World.putObj_heap_same (Array.getElem?_eq_some_iff.1 hl3).1
      · have nl : ¬ (Dt (b + 1) ∨ Pv (b + 1)) := by
          rintro (h | h)
          · have := hDt _ h; omega
          · exact nPl h
        exact ((((hka.mono fun k _ _ => trivial).putObj nl _).trans (hk3.mono fun k _ h => h.imp id .inl))).putObj nl _
    rintro e a3 W3 hp
    cases e with
    | normal =>
      obtain ⟨hk3, hi3⟩ := hp
      obtain ⟨W4, hr, rfl, hl4, hd4, hk4⟩ := fin none W3 hk3
      exact ⟨_, _, hr, hk4, .inl ⟨rfl, putI _ hi3, hl4, hd4⟩⟩
    | ret =>
      obtain ⟨hk3, hi3⟩ := hp
      obtain ⟨W4, hr, rfl, hl4, hd4, hk4⟩ := fin (some .ret) W3 hk3
      exact ⟨_, _, hr, hk4, .inr ⟨rfl, _, putIx _ hi3, hl4, hd4⟩⟩
    | exit id =>
      obtain ⟨hk3, hi3⟩ := hp
      obtain ⟨W4, hr, rfl, hl4, hd4, hk4⟩ := fin (some (.exit id)) W3 hk3
      exact ⟨_, _, hr, hk4, .inr ⟨rfl, _, putIx _ hi3, hl4, hd4⟩⟩
    | goto t =>
      obtain ⟨hk3, hi3⟩ := hp
      obtain ⟨W4, hr, rfl, hl4, hd4, hk4⟩ := fin (some (.goto t)) W3 hk3
      exact ⟨_, _, hr, hk4, .inr ⟨rfl, _, putIx _ hi3, hl4, hd4⟩⟩
    | panic ch => exact hp.elim
    | outgrown => exact hp.elim
  · exact ⟨hIl _ _ _ h0 (hk1 _), hL1, hD1⟩
  · -- behind the iterator
    rintro e W2 ⟨⟨v, rfl⟩, hsz, (⟨xs, hSx, hi, hl, hd⟩ | ⟨pre, hSp, c, hi, hl, hd⟩)⟩
    · refine ⟨none, _, by have := run_endLoop (P := P) hl (by rw [hrec]; simp); rw [hrec] at this; exact this, ?_⟩
      exact hdone b xs _ rfl (Nat.lt_of_lt_of_le (Array.getElem?_eq_some_iff.1 hd).1 (grownBy_putObj' _ _ _).size) nPd (putS _ hSx) (putI _ hi) (putD _ hd)
    · refine ⟨some c, _, by have := run_endLoop (P := P) hl (by rw [hrec]; simp); rw [hrec] at this; exact this, ?_⟩
      exact hstop b c pre _ rfl (Nat.lt_of_lt_of_le (Array.getElem?_eq_some_iff.1 hd).1 (grownBy_putObj' _ _ _).size) nPd hSp (putIx _ hi) (putD _ hd)

end Go.Proofs.YtbkhnnjjpelfcaaGreatDoor
