/- Iterators of whose elements something is told: the contract and the law of 'for x := range seq'. No program in it. -/
import Derived.Test.YtihleddhjmejoaaMD02
namespace Go.Proofs.Ytihleddhjmejoaa
open Go.RowKit

/-- AN ITERATOR's CONTRACT, where T is told of each element: called with a yield whose rounds carry J on and keep what they must, it hands out what S says; or, where a round has said 'no more', a part. -/
def SeqB {α : Type} (T : α → Prop) (st : Bool) (P : Program) (g : Nat) (lb : Array Value) (encs : α → Array Value) (Dt Pv : Nat → Prop) (S Sp : List α → Prop) (N : Nat) (w : World) : Prop :=
  ∀ (l : Nat) (J Jx : (Nat → Prop) → List α → World → Prop) (W : World), Below w.heap.size w W → AbidesT W.heap.size Pv J → AbidesT W.heap.size Pv Jx → (st = false → ∀ O s A, ¬ Jx O s A) →
    (∀ O pre x W1, (∀ k, O k → W.heap.size ≤ k ∧ k < W1.heap.size) → W.heap.size ≤ W1.heap.size → J O pre W1 → pre.length < N → T x → YieldAt Fence.wide 0 P l (encs x) W1 fun e W' =>
      Keeps (RoundS Dt Pv W.heap.size O) W1 W' ∧ ∃ O', Grows O O' W1 W' ∧ ((e = .returned (.bool true) ∧ J O' (pre ++ [x]) W') ∨ (e = .returned (.bool false) ∧ Jx O' (pre ++ [x]) W'))) →
    J (fun _ => False) [] W →
    CallsIn Fence.wide 0 P g (#[.func (.yield l) #[] #[]] ++ lb) W fun e W' => (∃ v, e = .returned v) ∧ W.heap.size ≤ W'.heap.size ∧ ∃ O, (∀ k, O k → W.heap.size ≤ k ∧ k < W'.heap.size) ∧
      ((∃ xs, S xs ∧ J O xs W') ∨ (∃ pre, Sp pre ∧ Jx O pre W'))

variable {P : Program}

/-- THE STATEMENT 'for x := range seq' over such an iterator. -/
theorem wpIn_rangeB {α : Type} {T : α → Prop} {g : Operand} {ps : Array Tmp} {assign body : Code} {Q : Exit → Act → World → Prop} {a : Act} {w : World}
    {gf : Nat} {lb : Array Value} (hg : a.eval g = .func (.func gf) #[] lb) (eg : ∀ args w, (callFunc gf args).run P w = .ok (.enter gf args) w)
    {encs : α → Array Value} {st : Bool} {Dt Pv : Nat → Prop} {S Sp : List α → Prop} {N : Nat} {w0 : World} (hseq : SeqB T st P gf lb encs Dt Pv S Sp N w0)
    (hb0 : Below w0.heap.size w0 w) (hDt : ∀ k, Dt k → k < w.heap.size) (hPv : ∀ k, Pv k → k < w.heap.size) (hps : ∀ x, (encs x).size = ps.size)
    (I : (Nat → Prop) → List α → World → Prop) (Ix : Code → (Nat → Prop) → List α → World → Prop) (hI : AbidesT w.heap.size Pv I) (hIx : ∀ c, AbidesT w.heap.size Pv (Ix c)) (hst : st = false → ∀ c O s A, ¬ Ix c O s A)
    (h0 : I (fun _ => False) [] w) (Ax : (Nat → Prop) → α → Act → World → Prop) (hAx : ∀ O x a' A C, Ax O x a' A → Keeps (fun k => k ≠ w.heap.size + 1) A C → Ax O x a' C)
    (hassign : ∀ (O : Nat → Prop) (pre : List α) (x : α) (W : World) (K : Act → World → Prop), (∀ k, O k → w.heap.size + 2 ≤ k ∧ k < W.heap.size) → w.heap.size + 2 ≤ W.heap.size → I O pre W →
      (∀ a' W', Keeps (RoundS Dt Pv w.heap.size O) W W' → I O pre W' → Ax O x a' W' → K a' W') →
      assign.wpIn (Fence.wide.inRound (w.heap.size + 1)) 0 P (Exit.then K (fun _ _ _ => False)) { tmps := (ps.zip (encs x)).foldl (fun t (p, v) => t.setIfInBounds p v) a.tmps, defers := [] } W)
    (hbody : ∀ (O : Nat → Prop) (pre : List α) (x : α) (a' : Act) (W : World), (∀ k, O k → w.heap.size + 2 ≤ k ∧ k < W.heap.size) → w.heap.size + 2 ≤ W.heap.size → (∃ r, W.heap[w.heap.size + 1]? = some (.loop r)) → I O pre W → Ax O x a' W → pre.length < N → T x →
      body.wpIn (Fence.wide.inRound (w.heap.size + 1)) 0 P (ownPostT (RoundS Dt Pv w.heap.size O) O I Ix (pre ++ [x]) W) a' W)
    (hdone : ∀ (O : Nat → Prop) (D : Nat) (xs : List α) (W : World), w.heap.size ≤ D → D < W.heap.size → (∀ k, O k → D < k ∧ k < W.heap.size) → ¬ Pv D → S xs → I O xs W → W.heap[D]? = some (.deferred (some [])) → Q .normal { a with defers := { target := .collected D, args := #[] } :: a.defers } W)
    (hstop : ∀ (O : Nat → Prop) (D : Nat) (c : Code) (pre : List α) (W : World), w.heap.size ≤ D → D < W.heap.size → (∀ k, O k → D < k ∧ k < W.heap.size) → ¬ Pv D → Sp pre → Ix c O pre W → W.heap[D]? = some (.deferred (some [])) → c.wpIn Fence.wide 0 P Q { a with defers := { target := .collected D, args := #[] } :: a.defers } W) :
    (Code.rangeFunc g ps assign body).wpIn Fence.wide 0 P Q a w := by
  refine wpIn_rangeFunc ?_
  intro fn hfn
  obtain ⟨b, hb⟩ : ∃ b, w.heap.size = b := ⟨_, rfl⟩
  obtain ⟨rec, hrec⟩ : ∃ rec : LoopState → Option Code → Loop, rec = fun st pe => { state := st, pending := pe, fn, tmps := a.tmps, params := ps, assign, body, defers := w.heap.size } := ⟨_, rfl⟩
  obtain ⟨W1, hW1⟩ : ∃ W1, (w.alloc (.deferred (some []))).alloc (.loop (rec .ready none)) = W1 := ⟨_, rfl⟩
  have hs1 : W1.heap.size = b + 2 := by rw [← hW1, ← hb]; simp
  have hL1 : W1.heap[b + 1]? = some (.loop (rec .ready none)) := by
    rw [← hW1, ← hb]
    have := World.alloc_heap_new (w.alloc (.deferred (some []))) (.loop (rec .ready none))
    rwa [World.size_alloc] at this
  have hD1 : W1.heap[b]? = some (.deferred (some [])) := by
    rw [← hW1, ← hb]
    exact (Below.heap_alloc _ _ _ (by simp)).trans (World.alloc_heap_new w _)
  have hk1 : ∀ R, Keeps R w W1 := fun R => by rw [← hW1]; exact ((Keeps.refl R w).alloc _).alloc _
  have hbW : Below w0.heap.size w0 W1 := by
    rw [← hW1]
    exact hb0.trans ((((Below.refl _ w).alloc (Nat.le_refl _) _).alloc (by simp) _).mono hb0.size)
  have nPl : ¬ Pv (b + 1) := fun h => by have := hPv _ h; omega
  have nPd : ¬ Pv b := fun h => by have := hPv _ h; omega
  have inI : ∀ {O : Nat → Prop} {k : Nat}, IterS Pv b O k → IterS Pv (b + 2) O k := fun h => ⟨h.1, h.2.elim (fun h => .inl (by omega)) .inr⟩
  -- a turn of the loop's record alone is abided
  have nS : ∀ {O : Nat → Prop}, (∀ k, O k → b + 2 ≤ k) → ¬ IterS Pv b O (b + 1) := fun hO h => by
    rcases h.2 with h | h
    · omega
    · have := hO _ h; omega
  have putI : ∀ {O : Nat → Prop} {s : List α} {W : World} (o : Obj), (∀ k, O k → b + 2 ≤ k) → I O s W → I O s (W.putObj (b + 1) o) := fun o hO h =>
    hI _ _ _ _ h (by rw [hb]; exact (Keeps.refl _ _).putObj (nS hO) o)
  have putIx : ∀ {c : Code} {O : Nat → Prop} {s : List α} {W : World} (o : Obj), (∀ k, O k → b + 2 ≤ k) → Ix c O s W → Ix c O s (W.putObj (b + 1) o) := fun o hO h =>
    hIx _ _ _ _ _ h (by rw [hb]; exact (Keeps.refl _ _).putObj (nS hO) o)
  have putA : ∀ {a' : Act} {O : Nat → Prop} {x : α} {W : World} (o : Obj), Ax O x a' W → Ax O x a' (W.putObj (b + 1) o) := fun {a'} _ _ _ o h =>
    hAx _ _ a' _ _ h ((Keeps.refl _ _).putObj (fun h => h (by rw [hb])) o)
  have putD : ∀ {W : World} (o : Obj), W.heap[b]? = some (.deferred (some [])) → (W.putObj (b + 1) o).heap[b]? = some (.deferred (some [])) := fun o h => (World.putObj_heap_other (by omega)).trans h
  rw [hb] at hI hIx hassign hbody hdone hstop
  refine ⟨b + 1, [{ target := .collected b, args := #[] }], W1, { target := .fn (.func gf) lb, args := #[.func (.yield (b + 1)) #[] #[]] }, W1, gf,
    #[.func (.yield (b + 1)) #[] #[]] ++ lb, W1, ?_, ?_, fun _ _ => trivial, ?_, fun h => by simp [Fence.wide] at h, ?_⟩
  · rw [← hW1, hrec, ← hb]; exact run_enterLoop_outer _ _ _ _ _
  · simp only [resolve, hg]
    simp [go_sem]
  · simp [invoke, go_sem, eg]
  refine (hseq (b + 1)
    (fun O pre W => (∀ k, O k → b + 2 ≤ k) ∧ I O pre W ∧ W.heap[b + 1]? = some (.loop (rec .ready none)) ∧ W.heap[b]? = some (.deferred (some [])))
    (fun O pre W => (∀ k, O k → b + 2 ≤ k) ∧ ∃ c, Ix c O pre W ∧ W.heap[b + 1]? = some (.loop (rec .done (some c))) ∧ W.heap[b]? = some (.deferred (some [])))
    W1 hbW ?_ ?_ ?_ ?_ ?_).mono ?_
  · rintro O s A C ⟨hO, hi, hl, hd⟩ hk
    rw [hs1] at hk
    exact ⟨hO, hI _ _ _ _ hi (hk.mono fun k _ h => inI h), hk.heap hl ⟨nPl, .inl (by omega)⟩, hk.heap hd ⟨nPd, .inl (by omega)⟩⟩
  · rintro O s A C ⟨hO, c, hi, hl, hd⟩ hk
    rw [hs1] at hk
    exact ⟨hO, c, hIx _ _ _ _ _ hi (hk.mono fun k _ h => inI h), hk.heap hl ⟨nPl, .inl (by omega)⟩, hk.heap hd ⟨nPd, .inl (by omega)⟩⟩
  · rintro e O s A ⟨_, c, h, _⟩
    exact hst e c O s A h
  · -- one round
    rintro O pre x W hOW hWs ⟨hO, hi, hl, hd⟩ hlen hTx
    rw [hs1] at hOW hWs ⊢
    have hy := run_yield (P := P) (args := encs x) hl (by rw [hrec]; exact hps x)
    rw [hrec] at hy
    refine ⟨fn, _, assign, body, hy, roundIn_of_wpIn hfn (hassign O pre x W _ (fun k hk => ⟨hO k hk, (hOW k hk).2⟩) hWs hi ?_)⟩
    intro a' Wa hka hia hax
    have inR : RoundS Dt Pv b O (b + 1) := .inr (.inr ⟨by omega, fun h => by have := hO _ h; omega⟩)
    have inD : RoundS Dt Pv b O b := .inr (.inr ⟨by omega, fun h => by have := hO _ h; omega⟩)
    have hla := hka.heap hl inR
    have hda := hka.heap hd inD
    refine ⟨_, run_beginRound hla (by rw [hrec]), ?_⟩
    have hlt : b + 1 < Wa.heap.size := (Array.getElem?_eq_some_iff.1 hla).1
    have hl2 : (Wa.putObj (b + 1) (.loop { rec .ready none with state := .busy })).heap[b + 1]? = some (.loop { rec .ready none with state := .busy }) := World.putObj_heap_same hlt
    have hd2 := putD (.loop { rec .ready none with state := .busy }) hda
    have hTa : W.heap.size ≤ (Wa.putObj (b + 1) (.loop { rec .ready none with state := .busy })).heap.size := by
      have h1 := hka.size
      have h2 := (grownBy_putObj' Wa (b + 1) (.loop { rec .ready none with state := .busy })).size
      omega
    refine wpIn_mono (hbody O pre x a' _ (fun k hk => ⟨hO k hk, Nat.lt_of_lt_of_le (hOW k hk).2 hTa⟩) (Nat.le_trans hWs hTa) ⟨_, hl2⟩ (putI _ hO hia) (putA _ hax) hlen hTx) ?_
    -- what a round leaves: the record's new state
    have fin : ∀ (jump : Option Code) (W3 : World) (O' : Nat → Prop), Keeps (RoundS Dt Pv b O) (Wa.putObj (b + 1) (.loop { rec .ready none with state := .busy })) W3 → Grows O O' (Wa.putObj (b + 1) (.loop { rec .ready none with state := .busy })) W3 →
        ∃ W4, (Instr.endRound (b + 1) jump).run P W3 = .ok (.bool jump.isNone) W4 ∧ W4 = W3.putObj (b + 1) (.loop (rec (if jump.isNone then .ready else .done) jump)) ∧
          W4.heap[b + 1]? = some (.loop (rec (if jump.isNone then .ready else .done) jump)) ∧ W4.heap[b]? = some (.deferred (some [])) ∧ Keeps (RoundS Dt Pv (b + 2) O) W W4 ∧ Grows O O' W W4 ∧ (∀ k, O' k → b + 2 ≤ k) := fun jump W3 O' hk3 hg3 => by
      have hl3 := hk3.heap hl2 inR
      have hd3 := hk3.heap hd2 inD
      have he := run_endRound (P := P) jump hl3
      rw [hrec] at he
      refine ⟨_, he, by rw [hrec], ?_, putD _ hd3, ?_, ?_, ?_⟩
      · rw [hrec]; exact World.putObj_heap_same (Array.getElem?_eq_some_iff.1 hl3).1
      · have sub : ∀ k, RoundS Dt Pv (b + 2) O k → RoundS Dt Pv b O k := fun k h => by
          rcases h with h | h | h
          · exact .inl h
          · exact .inr (.inl h)
          · exact .inr (.inr ⟨by omega, h.2⟩)
        have nl : ¬ RoundS Dt Pv (b + 2) O (b + 1) := by
          rintro (h | h | h)
          · have := hDt _ h; omega
          · exact nPl h
          · omega
        exact ((((hka.mono fun k _ h => sub k h)).putObj nl _).trans (hk3.mono fun k _ h => sub k h)).putObj nl _
      · intro k hk
        obtain ⟨h1, h2⟩ := hg3 k hk
        exact ⟨Nat.lt_of_lt_of_le h1 (grownBy_putObj' _ _ _).size, h2.imp id (Nat.le_trans hTa)⟩
      · intro k hk
        rcases (hg3 k hk).2 with h | h
        · exact hO _ h
        · omega
    rintro e a3 W3 hp
    cases e with
    | normal =>
      obtain ⟨hk3, O', hg3, hi3⟩ := hp
      obtain ⟨W4, hr, rfl, hl4, hd4, hk4, hg4, hO4⟩ := fin none W3 O' hk3 hg3
      exact ⟨_, _, hr, hk4, O', hg4, .inl ⟨rfl, hO4, putI _ hO4 hi3, hl4, hd4⟩⟩
    | ret =>
      obtain ⟨hk3, O', hg3, hi3⟩ := hp
      obtain ⟨W4, hr, rfl, hl4, hd4, hk4, hg4, hO4⟩ := fin (some .ret) W3 O' hk3 hg3
      exact ⟨_, _, hr, hk4, O', hg4, .inr ⟨rfl, hO4, _, putIx _ hO4 hi3, hl4, hd4⟩⟩
    | exit id =>
      obtain ⟨hk3, O', hg3, hi3⟩ := hp
      obtain ⟨W4, hr, rfl, hl4, hd4, hk4, hg4, hO4⟩ := fin (some (.exit id)) W3 O' hk3 hg3
      exact ⟨_, _, hr, hk4, O', hg4, .inr ⟨rfl, hO4, _, putIx _ hO4 hi3, hl4, hd4⟩⟩
    | goto t =>
      obtain ⟨hk3, O', hg3, hi3⟩ := hp
      obtain ⟨W4, hr, rfl, hl4, hd4, hk4, hg4, hO4⟩ := fin (some (.goto t)) W3 O' hk3 hg3
      exact ⟨_, _, hr, hk4, O', hg4, .inr ⟨rfl, hO4, _, putIx _ hO4 hi3, hl4, hd4⟩⟩
    | panic ch => exact hp.elim
    | outgrown => exact hp.elim
  · exact ⟨fun _ h => h.elim, hI _ _ _ _ h0 (hk1 _), hL1, hD1⟩
  · -- behind the iterator
    rintro e W2 ⟨⟨v, rfl⟩, hsz, O, hO2, (⟨xs, hS, hO, hi, hl, hd⟩ | ⟨pre, hSp, hO, c, hi, hl, hd⟩)⟩
    · refine ⟨none, _, by have := run_endLoop (P := P) hl (by rw [hrec]; simp); rw [hrec] at this; exact this, ?_⟩
      exact hdone O b xs _ (Nat.le_refl _) (Nat.lt_of_lt_of_le (Array.getElem?_eq_some_iff.1 hd).1 (grownBy_putObj' _ _ _).size) (fun k hk => ⟨by have := hO k hk; omega, Nat.lt_of_lt_of_le (hO2 k hk).2 (grownBy_putObj' _ _ _).size⟩) nPd hS (putI _ hO hi) (putD _ hd)
    · refine ⟨some c, _, by have := run_endLoop (P := P) hl (by rw [hrec]; simp); rw [hrec] at this; exact this, ?_⟩
      exact hstop O b c pre _ (Nat.le_refl _) (Nat.lt_of_lt_of_le (Array.getElem?_eq_some_iff.1 hd).1 (grownBy_putObj' _ _ _).size) (fun k hk => ⟨by have := hO k hk; omega, Nat.lt_of_lt_of_le (hO2 k hk).2 (grownBy_putObj' _ _ _).size⟩) nPd hSp (putIx _ hO hi) (putD _ hd)

end Go.Proofs.Ytihleddhjmejoaa
