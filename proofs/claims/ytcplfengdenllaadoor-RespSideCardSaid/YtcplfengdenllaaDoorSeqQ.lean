/- The law of ranges over such iterators, where the state behind the last round hangs on other blocks too. No program in it. -/
import Derived.Test.YtcplfengdenllaaDoorSeqP
namespace Go.Proofs.YtcplfengdenllaaDoor
open Go.RowKit

variable {P : Program}

theorem wpIn_rangeQ {α : Type} {g : Operand} {ps : Array Tmp} {assign body : Code} {Q : Exit → Act → World → Prop} {a : Act} {w : World}
    {gf : Nat} {lb : Array Value} (hg : a.eval g = .func (.func gf) #[] lb) (eg : ∀ args w, (callFunc gf args).run P w = .ok (.enter gf args) w)
    {encs : α → Array Value} {Dt Pv : Nat → Prop} {T : Nat → α → World → Prop} {S : List α → World → Prop} {Sp : List α → Prop} {N : Nat} {w0 : World} (hseq : SeqP P gf lb encs Dt Pv T S Sp N w0)
    (hb0 : Below w0.heap.size w0 w) (hDt : ∀ k, Dt k → k < w.heap.size) (hPv : ∀ k, Pv k → k < w.heap.size) (hps : ∀ x, (encs x).size = ps.size)
    (hS : ∀ xs A C, S xs A → Keeps (fun k => k ≠ w.heap.size + 1) A C → S xs C) (hT : ∀ b x A C, w.heap.size + 2 ≤ b → T b x A → Keeps (fun k => k ≠ w.heap.size + 1) A C → T b x C)
    (I : List α → World → Prop) (Ix : Code → List α → World → Prop) (hI : AbidesP Pv I) (hIx : ∀ c, AbidesP Pv (Ix c))
    (hIl : ∀ s A C, I s A → Keeps (fun k => k ≠ w.heap.size + 1) A C → I s C) (hIxl : ∀ c s A C, Ix c s A → Keeps (fun k => k ≠ w.heap.size + 1) A C → Ix c s C)
    (h0 : I [] w) (Ax : α → Act → World → Prop) (hAx : ∀ x a' A C, Ax x a' A → Keeps (fun k => k ≠ w.heap.size + 1) A C → Ax x a' C)
    (hassign : ∀ (pre : List α) (x : α) (W : World) (K : Act → World → Prop), w.heap.size + 2 ≤ W.heap.size → I pre W →
      (∀ a' W', Keeps (fun _ => True) W W' → I pre W' → Ax x a' W' → K a' W') →
      assign.wpIn (Fence.wide.inRound (w.heap.size + 1)) 0 P (Exit.then K (fun _ _ _ => False)) { tmps := (ps.zip (encs x)).foldl (fun t (p, v) => t.setIfInBounds p v) a.tmps, defers := [] } W)
    (hbody : ∀ (pre : List α) (x : α) (a' : Act) (W : World), w.heap.size + 2 ≤ W.heap.size → (∃ r, W.heap[w.heap.size + 1]? = some (.loop r)) → I pre W → Ax x a' W → (∃ W0, w.heap.size + 2 ≤ W0.heap.size ∧ I pre W0 ∧ Keeps (fun k => ¬ Pv k ∧ k ≠ w.heap.size + 1) W0 W ∧ T W0.heap.size x W) → pre.length < N →
      body.wpIn (Fence.wide.inRound (w.heap.size + 1)) 0 P (ownPostP (BodyS Dt Pv w.heap.size) I Ix (pre ++ [x]) W) a' W)
    (hdone : ∀ (D : Nat) (xs : List α) (W : World), D = w.heap.size → D < W.heap.size → ¬ Pv D → S xs W → I xs W → W.heap[D]? = some (.deferred (some [])) → Q .normal { a with defers := { target := .collected D, args := #[] } :: a.defers } W)
    (hstop : ∀ (D : Nat) (c : Code) (pre : List α) (W : World), D = w.heap.size → D < W.heap.size → ¬ Pv D → Sp pre → Ix c pre W → W.heap[D]? = some (.deferred (some [])) → c.wpIn Fence.wide 0 P Q { a with defers := { target := .collected D, args := #[] } :: a.defers } W) :
    (Code.rangeFunc g ps assign body).wpIn Fence.wide 0 P Q a w := by
  refine wpIn_rangeFunc ?_
  intro fn hfn
  obtain ⟨b, hb⟩ : ∃ b, w.heap.size = b := ⟨_, rfl⟩
  obtain ⟨rec, hrec⟩ : ∃ rec : LoopState → Option Code → Loop, rec = fun st pe => { state := st, pending := pe, fn, tmps := a.tmps, params := ps, assign, body, defers := w.heap.size } := ⟨_, rfl⟩
  obtain ⟨W1, hW1⟩ : ∃ W1, (w.alloc (.deferred (some []))).alloc (.loop (rec .ready none)) = W1 := ⟨_, rfl⟩
  have hs1 : W1.heap.size = b + 2 := by rw [← hW1, ← hb]; simp
  have hL1 : W1.heap[b + 1]? = some (.loop (rec .ready none)) := by
    rw [← hW1, ← hb]
    have := World.alloc_heap_new (w.alloc (.deferred (some []))) (.loop (rec .ready none))
    rwa [World.size_alloc] at this
  have hD1 : W1.heap[b]? = some (.deferred (some [])) := by
    rw [← hW1, ← hb]
    exact (Below.heap_alloc _ _ _ (by simp)).trans (World.alloc_heap_new w _)
  have hk1 : ∀ R, Keeps R w W1 := fun R => by rw [← hW1]; exact ((Keeps.refl R w).alloc _).alloc _
  have hbW : Below w0.heap.size w0 W1 := by
    rw [← hW1]
    exact hb0.trans ((((Below.refl _ w).alloc (Nat.le_refl _) _).alloc (by simp) _).mono hb0.size)
  have nPl : ¬ Pv (b + 1) := fun h => by have := hPv _ h; omega
  have nPd : ¬ Pv b := fun h => by have := hPv _ h; omega
  rw [hb] at hS hT hIl hIxl hAx hassign hbody hdone hstop
  have putI : ∀ {s : List α} {W : World} (o : Obj), I s W → I s (W.putObj (b + 1) o) := fun o h => hIl _ _ _ h ((Keeps.refl _ _).putObj (fun h => h rfl) o)
  have putIx : ∀ {c : Code} {s : List α} {W : World} (o : Obj), Ix c s W → Ix c s (W.putObj (b + 1) o) := fun o h => hIxl _ _ _ _ h ((Keeps.refl _ _).putObj (fun h => h rfl) o)
  have putA : ∀ {a' : Act} {x : α} {W : World} (o : Obj), Ax x a' W → Ax x a' (W.putObj (b + 1) o) := fun {a'} _ _ o h => hAx _ a' _ _ h ((Keeps.refl _ _).putObj (fun h => h rfl) o)
  have putT : ∀ {c : Nat} {x : α} {W : World} (o : Obj), b + 2 ≤ c → T c x W → T c x (W.putObj (b + 1) o) := fun o hc h => hT _ _ _ _ hc h ((Keeps.refl _ _).putObj (fun h => h rfl) o)
  have putS : ∀ {xs : List α} {W : World} (o : Obj), S xs W → S xs (W.putObj (b + 1) o) := fun o h => hS _ _ _ h ((Keeps.refl _ _).putObj (fun h => h rfl) o)
  have putD : ∀ {W : World} (o : Obj), W.heap[b]? = some (.deferred (some [])) → (W.putObj (b + 1) o).heap[b]? = some (.deferred (some [])) := fun o h => (World.putObj_heap_other (by omega)).trans h
  refine ⟨b + 1, [{ target := .collected b, args := #[] }], W1, { target := .fn (.func gf) lb, args := #[.func (.yield (b + 1)) #[] #[]] }, W1, gf,
    #[.func (.yield (b + 1)) #[] #[]] ++ lb, W1, ?_, ?_, fun _ _ => trivial, ?_, fun h => by simp [Fence.wide] at h, ?_⟩
  · rw [← hW1, hrec, ← hb]; exact run_enterLoop_outer _ _ _ _ _
  · simp only [resolve, hg]
    simp [go_sem]
  · simp [invoke, go_sem, eg]
  refine (hseq (b + 1)
    (fun pre W => I pre W ∧ W.heap[b + 1]? = some (.loop (rec .ready none)) ∧ W.heap[b]? = some (.deferred (some [])))
    (fun pre W => ∃ c, Ix c pre W ∧ W.heap[b + 1]? = some (.loop (rec .done (some c))) ∧ W.heap[b]? = some (.deferred (some [])))
    W1 hbW ?_ ?_ ?_ ?_).mono ?_
  · rintro s A C ⟨hi, hl, hd⟩ hk
    exact ⟨hI _ _ _ hi hk, hk.heap hl nPl, hk.heap hd nPd⟩
  · rintro s A C ⟨c, hi, hl, hd⟩ hk
    exact ⟨c, hIx _ _ _ _ hi hk, hk.heap hl nPl, hk.heap hd nPd⟩
  · -- one round
    rintro pre x W hWs ⟨hi, hl, hd⟩ hTx hlen
    obtain ⟨W0, hW0, ⟨hi0, -, -⟩, hk0, hTx⟩ := hTx
    rw [hs1] at hWs hW0
    have hy := run_yield (P := P) (args := encs x) hl (by rw [hrec]; exact hps x)
    rw [hrec] at hy
    refine ⟨fn, _, assign, body, hy, roundIn_of_wpIn hfn (hassign pre x W _ hWs hi ?_)⟩
    intro a' Wa hka hia hax
    have hla := hka.heap hl trivial
    have hda := hka.heap hd trivial
    have hTa := hT _ _ _ _ hW0 hTx (hka.mono fun _ _ _ => trivial)
    refine ⟨_, run_beginRound hla (by rw [hrec]), ?_⟩
    have hlt : b + 1 < Wa.heap.size := (Array.getElem?_eq_some_iff.1 hla).1
    have hl2 : (Wa.putObj (b + 1) (.loop { rec .ready none with state := .busy })).heap[b + 1]? = some (.loop { rec .ready none with state := .busy }) := World.putObj_heap_same hlt
    have hd2 := putD (.loop { rec .ready none with state := .busy }) hda
    have hTs : W.heap.size ≤ (Wa.putObj (b + 1) (.loop { rec .ready none with state := .busy })).heap.size := by
      have h1 := hka.size
      have h2 := (grownBy_putObj' Wa (b + 1) (.loop { rec .ready none with state := .busy })).size
      omega
    refine wpIn_mono (hbody pre x a' _ (Nat.le_trans hWs hTs) ⟨_, hl2⟩ (putI _ hia) (putA _ hax) ⟨W0, hW0, hi0, ((hk0.mono fun _ _ h => h.1).trans (hka.mono fun _ _ _ => trivial)).putObj (fun h => h.2 rfl) _, putT _ hW0 hTa⟩ hlen) ?_
    have fin : ∀ (jump : Option Code) (W3 : World), Keeps (BodyS Dt Pv b) (Wa.putObj (b + 1) (.loop { rec .ready none with state := .busy })) W3 →
        ∃ W4, (Instr.endRound (b + 1) jump).run P W3 = .ok (.bool jump.isNone) W4 ∧ W4 = W3.putObj (b + 1) (.loop (rec (if jump.isNone then .ready else .done) jump)) ∧
          W4.heap[b + 1]? = some (.loop (rec (if jump.isNone then .ready else .done) jump)) ∧ W4.heap[b]? = some (.deferred (some [])) ∧ Keeps (fun k => Dt k ∨ Pv k) W W4 := fun jump W3 hk3 => by
      have hl3 := hk3.heap hl2 (.inr (.inr (.inr rfl)))
      have hd3 := hk3.heap hd2 (.inr (.inr (.inl rfl)))
      have he := run_endRound (P := P) jump hl3
      rw [hrec] at he
      refine ⟨_, he, by rw [hrec], ?_, putD _ hd3, ?_⟩
      · rw [hrec]; exact World.putObj_heap_same (Array.getElem?_eq_some_iff.1 hl3).1
      · have nl : ¬ (Dt (b + 1) ∨ Pv (b + 1)) := by
          rintro (h | h)
          · have := hDt _ h; omega
          · exact nPl h
        exact ((((hka.mono fun k _ _ => trivial).putObj nl _).trans (hk3.mono fun k _ h => h.imp id .inl))).putObj nl _
    rintro e a3 W3 hp
    cases e with
    | normal =>
      obtain ⟨hk3, hi3⟩ := hp
      obtain ⟨W4, hr, rfl, hl4, hd4, hk4⟩ := fin none W3 hk3
      exact ⟨_, _, hr, hk4, .inl ⟨rfl, putI _ hi3, hl4, hd4⟩⟩
    | ret =>
      obtain ⟨hk3, hi3⟩ := hp
      obtain ⟨W4, hr, rfl, hl4, hd4, hk4⟩ := fin (some .ret) W3 hk3
      exact ⟨_, _, hr, hk4, .inr ⟨rfl, _, putIx _ hi3, hl4, hd4⟩⟩
    | exit id =>
      obtain ⟨hk3, hi3⟩ := hp
      obtain ⟨W4, hr, rfl, hl4, hd4, hk4⟩ := fin (some (.exit id)) W3 hk3
      exact ⟨_, _, hr, hk4, .inr ⟨rfl, _, putIx _ hi3, hl4, hd4⟩⟩
    | goto t =>
      obtain ⟨hk3, hi3⟩ := hp
      obtain ⟨W4, hr, rfl, hl4, hd4, hk4⟩ := fin (some (.goto t)) W3 hk3
      exact ⟨_, _, hr, hk4, .inr ⟨rfl, _, putIx _ hi3, hl4, hd4⟩⟩
    | panic ch => exact hp.elim
    | outgrown => exact hp.elim
  · exact ⟨hIl _ _ _ h0 (hk1 _), hL1, hD1⟩
  · -- behind the iterator
    rintro e W2 ⟨⟨v, rfl⟩, hsz, (⟨xs, hSx, hi, hl, hd⟩ | ⟨pre, hSp, c, hi, hl, hd⟩)⟩
    · refine ⟨none, _, by have := run_endLoop (P := P) hl (by rw [hrec]; simp); rw [hrec] at this; exact this, ?_⟩
      exact hdone b xs _ rfl (Nat.lt_of_lt_of_le (Array.getElem?_eq_some_iff.1 hd).1 (grownBy_putObj' _ _ _).size) nPd (putS _ hSx) (putI _ hi) (putD _ hd)
    · refine ⟨some c, _, by have := run_endLoop (P := P) hl (by rw [hrec]; simp); rw [hrec] at this; exact this, ?_⟩
      exact hstop b c pre _ rfl (Nat.lt_of_lt_of_le (Array.getElem?_eq_some_iff.1 hd).1 (grownBy_putObj' _ _ _).size) nPd hSp (putIx _ hi) (putD _ hd)

end Go.Proofs.YtcplfengdenllaaDoor
