/- Iterators that turn nothing that lies already, and hand over what they have laid: the contract and the law of 'for x := range seq'. No program in it. The contracts of the program's after, and of the iterator that it hands out (15). -/
import Derived.Test.YtihleddhjmejoaaMD02
import Derived.Test.YtihleddhjmejoaaMD37
import Derived.Test.YtihleddhjmejoaaMD33
namespace Go.Proofs.Ytihleddhjmejoaa
open Go.RowKit

theorem Keeps.transIn {S S' : Nat → Prop} {A B C : World} (h : Keeps S A B) (k : Keeps S' B C) (hs : ∀ j, j < A.heap.size → S j → S' j) : Keeps S A C :=
  ⟨k.os.trans h.os, k.tape.trans h.tape, k.output.trans h.output, Nat.le_trans h.size k.size, fun i hi hp => (k.block i (Nat.lt_of_lt_of_le hi h.size) (hs i hi hp)).trans (h.block i hi hp)⟩

/-- what holds stays while nothing that lies is turned. -/
def AbidesK {β : Type} (J : (Nat → Prop) → β → World → Prop) : Prop := ∀ O s A C, J O s A → Keeps (fun _ => True) A C → J O s C

/-- AN ITERATOR's CONTRACT: it turns nothing that lies; T is told of each element, in the world of its round: called with a yield whose rounds carry J on and keep what they must, it hands out what S says; or, where a round has said 'no more', a part. -/
def SeqK {α : Type} (T : α → World → Prop) (P : Program) (g : Nat) (lb : Array Value) (encs : α → Array Value) (Dt : Nat → Prop) (S Sp : List α → Prop) (N : Nat) (w : World) : Prop :=
  ∀ (l : Nat) (J Jx : (Nat → Prop) → List α → World → Prop) (W : World), Below w.heap.size w W → AbidesK J → AbidesK Jx →
    (∀ O pre x W1, (∀ k, O k → W.heap.size ≤ k ∧ k < W1.heap.size) → W.heap.size ≤ W1.heap.size → J O pre W1 → pre.length < N → T x W1 → YieldAt Fence.wide 0 P l (encs x) W1 fun e W' =>
      Keeps (RoundS Dt (fun _ => False) W.heap.size O) W1 W' ∧ ∃ O', Grows O O' W1 W' ∧ ((e = .returned (.bool true) ∧ J O' (pre ++ [x]) W') ∨ (e = .returned (.bool false) ∧ Jx O' (pre ++ [x]) W'))) →
    J (fun _ => False) [] W →
    CallsIn Fence.wide 0 P g (#[.func (.yield l) #[] #[]] ++ lb) W fun e W' => (∃ v, e = .returned v) ∧ W.heap.size ≤ W'.heap.size ∧ ∃ O, (∀ k, O k → W.heap.size ≤ k ∧ k < W'.heap.size) ∧
      ((∃ xs, S xs ∧ J O xs W') ∨ (∃ pre, Sp pre ∧ Jx O pre W'))

variable {P : Program}

/-- THE STATEMENT 'for x := range seq' over such an iterator. -/
theorem wpIn_rangeK {α : Type} {T : α → World → Prop} {g : Operand} {ps : Array Tmp} {assign body : Code} {Q : Exit → Act → World → Prop} {a : Act} {w : World}
    {gf : Nat} {lb : Array Value} (hg : a.eval g = .func (.func gf) #[] lb) (eg : ∀ args w, (callFunc gf args).run P w = .ok (.enter gf args) w)
    {encs : α → Array Value} {Dt : Nat → Prop} {S Sp : List α → Prop} {N : Nat} {w0 : World} (hseq : SeqK T P gf lb encs Dt S Sp N w0)
    (hb0 : Below w0.heap.size w0 w) (hDt : ∀ k, Dt k → k < w.heap.size) (hps : ∀ x, (encs x).size = ps.size)
    (I : (Nat → Prop) → List α → World → Prop) (Ix : Code → (Nat → Prop) → List α → World → Prop) (hI : ∀ O s A C, I O s A → Keeps (fun k => k ≠ w.heap.size + 1) A C → I O s C) (hIx : ∀ c O s A C, Ix c O s A → Keeps (fun k => k ≠ w.heap.size + 1) A C → Ix c O s C)
    (hT : ∀ x A C, (∃ r, A.heap[w.heap.size + 1]? = some (.loop r)) → T x A → Keeps (fun k => k ≠ w.heap.size + 1) A C → T x C)
    (h0 : I (fun _ => False) [] w) (Ax : (Nat → Prop) → α → Act → World → Prop) (hAx : ∀ O x a' A C, Ax O x a' A → Keeps (fun k => k ≠ w.heap.size + 1) A C → Ax O x a' C)
    (hassign : ∀ (O : Nat → Prop) (pre : List α) (x : α) (W : World) (K : Act → World → Prop), (∀ k, O k → w.heap.size + 2 ≤ k ∧ k < W.heap.size) → w.heap.size + 2 ≤ W.heap.size → I O pre W →
      (∀ a' W', Keeps (fun _ => True) W W' → I O pre W' → Ax O x a' W' → K a' W') →
      assign.wpIn (Fence.wide.inRound (w.heap.size + 1)) 0 P (Exit.then K (fun _ _ _ => False)) { tmps := (ps.zip (encs x)).foldl (fun t (p, v) => t.setIfInBounds p v) a.tmps, defers := [] } W)
    (hbody : ∀ (O : Nat → Prop) (pre : List α) (x : α) (a' : Act) (W : World), (∀ k, O k → w.heap.size + 2 ≤ k ∧ k < W.heap.size) → w.heap.size + 2 ≤ W.heap.size → (∃ r, W.heap[w.heap.size + 1]? = some (.loop r)) → I O pre W → Ax O x a' W → pre.length < N → T x W →
      body.wpIn (Fence.wide.inRound (w.heap.size + 1)) 0 P (ownPostT (RoundS Dt (fun _ => False) w.heap.size O) O I Ix (pre ++ [x]) W) a' W)
    (hdone : ∀ (O : Nat → Prop) (D : Nat) (xs : List α) (W : World), w.heap.size ≤ D → D < W.heap.size → (∀ k, O k → D < k ∧ k < W.heap.size) → S xs → I O xs W → W.heap[D]? = some (.deferred (some [])) → Q .normal { a with defers := { target := .collected D, args := #[] } :: a.defers } W)
    (hstop : ∀ (O : Nat → Prop) (D : Nat) (c : Code) (pre : List α) (W : World), w.heap.size ≤ D → D < W.heap.size → (∀ k, O k → D < k ∧ k < W.heap.size) → Sp pre → Ix c O pre W → W.heap[D]? = some (.deferred (some [])) → c.wpIn Fence.wide 0 P Q { a with defers := { target := .collected D, args := #[] } :: a.defers } W) :
    (Code.rangeFunc g ps assign body).wpIn Fence.wide 0 P Q a w := by
  refine wpIn_rangeFunc ?_
  intro fn hfn
  obtain ⟨b, hb⟩ : ∃ b, w.heap.size = b := ⟨_, rfl⟩
  obtain ⟨rec, hrec⟩ : ∃ rec : LoopState → Option Code → Loop, rec = fun st pe => { state := st, pending := pe, fn, tmps := a.tmps, params := ps, assign, body, defers := w.heap.size } := ⟨_, rfl⟩
  obtain ⟨W1, hW1⟩ : ∃ W1, (w.alloc (.deferred (some []))).alloc (.loop (rec .ready none)) = W1 := ⟨_, rfl⟩
  have hs1 : W1.heap.size = b + 2 := by rw [← hW1, ← hb]; simp
  have hL1 : W1.heap[b + 1]? = some (.loop (rec .ready none)) := by
    rw [← hW1, ← hb]
    have := World.alloc_heap_new (w.alloc (.deferred (some []))) (.loop (rec .ready none))
    rwa [World.size_alloc] at this
  have hD1 : W1.heap[b]? = some (.deferred (some [])) := by
    rw [← hW1, ← hb]
    exact (Below.heap_alloc _ _ _ (by simp)).trans (World.alloc_heap_new w _)
  have hk1 : ∀ R, Keeps R w W1 := fun R => by rw [← hW1]; exact ((Keeps.refl R w).alloc _).alloc _
  have hbW : Below w0.heap.size w0 W1 := by
    rw [← hW1]
    exact hb0.trans ((((Below.refl _ w).alloc (Nat.le_refl _) _).alloc (by simp) _).mono hb0.size)
  rw [hb] at hI hIx hT hAx hassign hbody hdone hstop
  have putI : ∀ {O : Nat → Prop} {s : List α} {W : World} (o : Obj), (∀ k, O k → b + 2 ≤ k) → I O s W → I O s (W.putObj (b + 1) o) := fun o hO h =>
    hI _ _ _ _ h ((Keeps.refl _ _).putObj (fun h => h rfl) o)
  have putIx : ∀ {c : Code} {O : Nat → Prop} {s : List α} {W : World} (o : Obj), (∀ k, O k → b + 2 ≤ k) → Ix c O s W → Ix c O s (W.putObj (b + 1) o) := fun o hO h =>
    hIx _ _ _ _ _ h ((Keeps.refl _ _).putObj (fun h => h rfl) o)
  have putA : ∀ {a' : Act} {O : Nat → Prop} {x : α} {W : World} (o : Obj), Ax O x a' W → Ax O x a' (W.putObj (b + 1) o) := fun {a'} _ _ _ o h =>
    hAx _ _ a' _ _ h ((Keeps.refl _ _).putObj (fun h => h rfl) o)
  have putD : ∀ {W : World} (o : Obj), W.heap[b]? = some (.deferred (some [])) → (W.putObj (b + 1) o).heap[b]? = some (.deferred (some [])) := fun o h => (World.putObj_heap_other (by omega)).trans h
  refine ⟨b + 1, [{ target := .collected b, args := #[] }], W1, { target := .fn (.func gf) lb, args := #[.func (.yield (b + 1)) #[] #[]] }, W1, gf,
    #[.func (.yield (b + 1)) #[] #[]] ++ lb, W1, ?_, ?_, fun _ _ => trivial, ?_, fun h => by simp [Fence.wide] at h, ?_⟩
  · rw [← hW1, hrec, ← hb]; exact run_enterLoop_outer _ _ _ _ _
  · simp only [resolve, hg]
    simp [go_sem]
  · simp [invoke, go_sem, eg]
  refine (hseq (b + 1)
    (fun O pre W => (∀ k, O k → b + 2 ≤ k) ∧ I O pre W ∧ W.heap[b + 1]? = some (.loop (rec .ready none)) ∧ W.heap[b]? = some (.deferred (some [])))
    (fun O pre W => (∀ k, O k → b + 2 ≤ k) ∧ ∃ c, Ix c O pre W ∧ W.heap[b + 1]? = some (.loop (rec .done (some c))) ∧ W.heap[b]? = some (.deferred (some [])))
    W1 hbW ?_ ?_ ?_ ?_).mono ?_
  · rintro O s A C ⟨hO, hi, hl, hd⟩ hk
    exact ⟨hO, hI _ _ _ _ hi (hk.mono fun _ _ _ => trivial), hk.heap hl trivial, hk.heap hd trivial⟩
  · rintro O s A C ⟨hO, c, hi, hl, hd⟩ hk
    exact ⟨hO, c, hIx _ _ _ _ _ hi (hk.mono fun _ _ _ => trivial), hk.heap hl trivial, hk.heap hd trivial⟩
  · -- one round
    rintro O pre x W hOW hWs ⟨hO, hi, hl, hd⟩ hlen hTx
    rw [hs1] at hOW hWs ⊢
    have hy := run_yield (P := P) (args := encs x) hl (by rw [hrec]; exact hps x)
    rw [hrec] at hy
    refine ⟨fn, _, assign, body, hy, roundIn_of_wpIn hfn (hassign O pre x W _ (fun k hk => ⟨hO k hk, (hOW k hk).2⟩) hWs hi ?_)⟩
    intro a' Wa hka hia hax
    have inR : RoundS Dt (fun _ => False) b O (b + 1) := .inr (.inr ⟨by omega, fun h => by have := hO _ h; omega⟩)
    have inD : RoundS Dt (fun _ => False) b O b := .inr (.inr ⟨by omega, fun h => by have := hO _ h; omega⟩)
    have hla := hka.heap hl trivial
    have hda := hka.heap hd trivial
    have hTa0 := hT _ _ _ ⟨_, hl⟩ hTx (hka.mono fun _ _ _ => trivial)
    refine ⟨_, run_beginRound hla (by rw [hrec]), ?_⟩
    have hlt : b + 1 < Wa.heap.size := (Array.getElem?_eq_some_iff.1 hla).1
    have hl2 : (Wa.putObj (b + 1) (.loop { rec .ready none with state := .busy })).heap[b + 1]? = some (.loop { rec .ready none with state := .busy }) := World.putObj_heap_same hlt
    have hd2 := putD (.loop { rec .ready none with state := .busy }) hda
    have hTa : W.heap.size ≤ (Wa.putObj (b + 1) (.loop { rec .ready none with state := .busy })).heap.size := by
      have h1 := hka.size
      have h2 := (grownBy_putObj' Wa (b + 1) (.loop { rec .ready none with state := .busy })).size
      omega
    refine wpIn_mono (hbody O pre x a' _ (fun k hk => ⟨hO k hk, Nat.lt_of_lt_of_le (hOW k hk).2 hTa⟩) (Nat.le_trans hWs hTa) ⟨_, hl2⟩ (putI _ hO hia) (putA _ hax) hlen (hT _ _ _ ⟨_, hla⟩ hTa0 ((Keeps.refl _ _).putObj (fun h => h rfl) _))) ?_
    -- what a round leaves: the record's new state
    have fin : ∀ (jump : Option Code) (W3 : World) (O' : Nat → Prop), Keeps (RoundS Dt (fun _ => False) b O) (Wa.putObj (b + 1) (.loop { rec .ready none with state := .busy })) W3 → Grows O O' (Wa.putObj (b + 1) (.loop { rec .ready none with state := .busy })) W3 →
        ∃ W4, (Instr.endRound (b + 1) jump).run P W3 = .ok (.bool jump.isNone) W4 ∧ W4 = W3.putObj (b + 1) (.loop (rec (if jump.isNone then .ready else .done) jump)) ∧
          W4.heap[b + 1]? = some (.loop (rec (if jump.isNone then .ready else .done) jump)) ∧ W4.heap[b]? = some (.deferred (some [])) ∧ Keeps (RoundS Dt (fun _ => False) (b + 2) O) W W4 ∧ Grows O O' W W4 ∧ (∀ k, O' k → b + 2 ≤ k) := fun jump W3 O' hk3 hg3 => by
      have hl3 := hk3.heap hl2 inR
      have hd3 := hk3.heap hd2 inD
      have he := run_endRound (P := P) jump hl3
      rw [hrec] at he
      refine ⟨_, he, by rw [hrec], ?_, putD _ hd3, ?_, ?_, ?_⟩
      · rw [hrec]; exact World.putObj_heap_same (Array.getElem?_eq_some_iff.1 hl3).1
      · have sub : ∀ k, RoundS Dt (fun _ => False) (b + 2) O k → RoundS Dt (fun _ => False) b O k := fun k h => by
          rcases h with h | h | h
          · exact .inl h
          · exact .inr (.inl h)
          · exact .inr (.inr ⟨by omega, h.2⟩)
        have nl : ¬ RoundS Dt (fun _ => False) (b + 2) O (b + 1) := by
          rintro (h | h | h)
          · have := hDt _ h; omega
          · exact h
          · omega
        exact ((((hka.mono fun k _ _ => trivial)).putObj nl _).trans (hk3.mono fun k _ h => sub k h)).putObj nl _
      · intro k hk
        obtain ⟨h1, h2⟩ := hg3 k hk
        exact ⟨Nat.lt_of_lt_of_le h1 (grownBy_putObj' _ _ _).size, h2.imp id (Nat.le_trans hTa)⟩
      · intro k hk
        rcases (hg3 k hk).2 with h | h
        · exact hO _ h
        · omega
    rintro e a3 W3 hp
    cases e with
    | normal =>
      obtain ⟨hk3, O', hg3, hi3⟩ := hp
      obtain ⟨W4, hr, rfl, hl4, hd4, hk4, hg4, hO4⟩ := fin none W3 O' hk3 hg3
      exact ⟨_, _, hr, hk4, O', hg4, .inl ⟨rfl, hO4, putI _ hO4 hi3, hl4, hd4⟩⟩
    | ret =>
      obtain ⟨hk3, O', hg3, hi3⟩ := hp
      obtain ⟨W4, hr, rfl, hl4, hd4, hk4, hg4, hO4⟩ := fin (some .ret) W3 O' hk3 hg3
      exact ⟨_, _, hr, hk4, O', hg4, .inr ⟨rfl, hO4, _, putIx _ hO4 hi3, hl4, hd4⟩⟩
    | exit id =>
      obtain ⟨hk3, O', hg3, hi3⟩ := hp
      obtain ⟨W4, hr, rfl, hl4, hd4, hk4, hg4, hO4⟩ := fin (some (.exit id)) W3 O' hk3 hg3
      exact ⟨_, _, hr, hk4, O', hg4, .inr ⟨rfl, hO4, _, putIx _ hO4 hi3, hl4, hd4⟩⟩
    | goto t =>
      obtain ⟨hk3, O', hg3, hi3⟩ := hp
      obtain ⟨W4, hr, rfl, hl4, hd4, hk4, hg4, hO4⟩ := fin (some (.goto t)) W3 O' hk3 hg3
      exact ⟨_, _, hr, hk4, O', hg4, .inr ⟨rfl, hO4, _, putIx _ hO4 hi3, hl4, hd4⟩⟩
    | panic ch => exact hp.elim
    | outgrown => exact hp.elim
  · exact ⟨fun _ h => h.elim, hI _ _ _ _ h0 (hk1 _), hL1, hD1⟩
  · -- behind the iterator
    rintro e W2 ⟨⟨v, rfl⟩, hsz, O, hO2, (⟨xs, hS, hO, hi, hl, hd⟩ | ⟨pre, hSp, hO, c, hi, hl, hd⟩)⟩
    · refine ⟨none, _, by have := run_endLoop (P := P) hl (by rw [hrec]; simp); rw [hrec] at this; exact this, ?_⟩
      exact hdone O b xs _ (Nat.le_refl _) (Nat.lt_of_lt_of_le (Array.getElem?_eq_some_iff.1 hd).1 (grownBy_putObj' _ _ _).size) (fun k hk => ⟨by have := hO k hk; omega, Nat.lt_of_lt_of_le (hO2 k hk).2 (grownBy_putObj' _ _ _).size⟩) hS (putI _ hO hi) (putD _ hd)
    · refine ⟨some c, _, by have := run_endLoop (P := P) hl (by rw [hrec]; simp); rw [hrec] at this; exact this, ?_⟩
      exact hstop O b c pre _ (Nat.le_refl _) (Nat.lt_of_lt_of_le (Array.getElem?_eq_some_iff.1 hd).1 (grownBy_putObj' _ _ _).size) (fun k hk => ⟨by have := hO k hk; omega, Nat.lt_of_lt_of_le (hO2 k hk).2 (grownBy_putObj' _ _ _).size⟩) hSp (putIx _ hO hi) (putD _ hd)

end Go.Proofs.Ytihleddhjmejoaa
namespace Go.Proofs.Ytihleddhjmejoaa
open Go.RowKit Go.Shelf
attribute [local go_sem] Oper.semAt_some
set_option linter.unusedVariables false
set_option linter.unusedSimpArgs false

/-- an integer's box. -/
def afterW (w : World) (f : Fe) (off : Int) : World := (w.alloc (.cells #[.int .i64 f.rn, .int .i64 f.re, .int .i64 f.off, .slice f.a f.es.length f.c, .int .i64 f.pn, .int .i64 f.pe, .int .i64 f.unt] 26)).alloc (.cells #[.int .i64 off] 3)
def afterV (B : Nat) : Value := .func (.func 55) #[] #[.pointer (some ⟨B + 1, 0, none⟩), .pointer (some ⟨B, 0, none⟩)]

set_option maxHeartbeats 1000000 in
theorem after_any (f : Fe) (off : Int) (w : World) :
    Calls Try.prog 36 #[f.v, .int .i64 off] w fun e w' => e = .returned (afterV w.heap.size) ∧ w' = afterW w f off := by
  obtain ⟨rn, re, fo, a, es, c, pn, pe, unt⟩ := f
  unfold Fe.v afterV afterW
  simp only
  go_enter Try.func36, Try.ntmps36
  go_wp2
  go_ret
  exact ⟨rfl, rfl⟩
theorem afterW_below (w : World) (f : Fe) (off : Int) : Below w.heap.size w (afterW w f off) := ((Below.refl _ w).alloc (Nat.le_refl _) _).alloc (by simp) _
theorem afterW_size (w : World) (f : Fe) (off : Int) : (afterW w f off).heap.size = w.heap.size + 2 := by unfold afterW; simp
theorem afterW_box (w : World) (f : Fe) (off : Int) : FeBox (afterW w f off) w.heap.size f ∧ Boxed (afterW w f off) (w.heap.size + 1) 3 (.int .i64 off) := by
  refine ⟨(Below.heap_alloc _ _ _ (by simp)).trans (World.alloc_heap_new w _), ?_⟩
  have := Boxed.new (w.alloc f.o) 3 (.int .i64 off)
  rwa [World.size_alloc] at this

def encE (x : Le) : Array Value := #[x.v]
/-- what is told of each. -/
def OkE (x : Le) (W : World) : Prop := x.Ok W ∧ x.e.Sm

set_option maxRecDepth 100000 in
set_option maxHeartbeats 4000000 in
theorem after_seq (B : Nat) (f : Fe) (off : Int) (w : World) (hB : FeBox w B f) (hO : Boxed w (B + 1) 3 (.int .i64 off)) (hok : f.Ok w) (hsm : f.Sm) (ho0 : -1000 ≤ off) (ho1 : off ≤ 2305843009213693952) :
    SeqK OkE Try.prog 55 #[.pointer (some ⟨B + 1, 0, none⟩), .pointer (some ⟨B, 0, none⟩)] encE (fun k => k < w.heap.size) (fun ys => ys = f.es.drop (off - (f.off - (f.es.length : Int))).toNat) (fun ys => ys <+: f.es.drop (off - (f.off - (f.es.length : Int))).toNat) f.es.length w := by
  intro l J Jx W hW hJ hJx hY h0
  have hB1 : FeBox W B f := hB.next hW
  have hO1 : Boxed W (B + 1) 3 (.int .i64 off) := (hW.block _ hO.lt).trans hO
  have hWs := hW.size
  have hbl := hO.lt
  have HE := Lib.hid hok.1
  have HBX := Lib.hid hB1
  have HJ := Lib.hid hJ
  have HJx := Lib.hid hJx
  have HY := Lib.hid hY
  have H0 := Lib.hid h0
  have HSM := Lib.hid hsm
  have HFI := Lib.hid (fun W' => first_any f W' hsm.1.1 hsm.1.2 hsm.2.1)
  have hn := hsm.2.1
  have hf0 := hsm.1.1
  have hf1 := hsm.1.2
  have HWW := Lib.hid hW
  clear hB hO hok hsm hJ hJx hY h0 hW
  obtain ⟨rn, re, fo, a, es, c, pn, pe, unt⟩ := f
  simp only at HE hn hf0 hf1 HFI ⊢
  unfold Fe.v at HFI
  simp only at HFI
  obtain ⟨p0, hp0⟩ : ∃ p0 : Int, off - (fo - (es.length : Int)) = p0 := ⟨_, rfl⟩
  have wr1 : IntKind.i64.wrap (off - (fo - (es.length : Int))) = p0 := by rw [IntWalk.i64_in _ (by omega), hp0]
  have HP0 := Lib.hid hp0
  rw [hp0]
  obtain ⟨fi, hfi⟩ : ∃ fi : Int, fo - (es.length : Int) = fi := ⟨_, rfl⟩
  rw [hfi] at HFI wr1
  clear hp0 hfi
  obtain ⟨⟨c0, c1, c2, c3, c4, c5, c6⟩, -⟩ := hB1.at
  have co := hO1.cell
  simp only at c0 c1 c2 c3 c4 c5 c6
  have hbB : B < W.heap.size := by omega
  have hbO : B + 1 < W.heap.size := by omega
  clear hB1 hO1
  refine callsIn_of_wp Try.func55 rfl trivial ?_ rfl
  simp only [Try.ntmps55, List.size_toArray, List.length_cons, List.length_nil, Nat.reduceAdd, Nat.reduceSub, Array.replicate_succ, Array.replicate_zero, List.push_toArray, List.append_toArray, List.nil_append, List.cons_append]
  gi_wp2
  have HS0 : Below W.heap.size W W.drew := (Below.refl _ W).drew
  refine wpIn_region_M (S := fun W' => Below W.heap.size W W') (by kernel_rfl) ?_
  refine wpAnyM_take (i := 0) (some 7) (v := .int .i64 off) rfl rfl (by kernel_rfl) (by kernel_rfl) (by kernel_rfl) (fun _ _ _ h => h) (by rfl) (fun W' hS => ?_) HS0 ?_
  · have m0 := (hS.cell (p := ⟨B + 1, 0, none⟩) hbO).trans co
    go_simp
  try simp only [Act.put, List.setIfInBounds_toArray, List.set_cons_zero, List.set_cons_succ]
  refine wpAnyM_take (i := 1) (some 8) (v := .agg #[.int .i64 rn, .int .i64 re, .int .i64 fo, .slice a es.length c, .int .i64 pn, .int .i64 pe, .int .i64 unt]) rfl rfl (by kernel_rfl) (by kernel_rfl) (by kernel_rfl) (fun _ _ _ h => h) (by rfl) (fun W' hS => ?_) HS0 ?_
  · have m0 := (hS.cell (p := ⟨B, 0, none⟩) hbB).trans c0
    have m1 := (hS.cell (p := ⟨B, 1, none⟩) hbB).trans c1
    have m2 := (hS.cell (p := ⟨B, 2, none⟩) hbB).trans c2
    have m3 := (hS.cell (p := ⟨B, 3, none⟩) hbB).trans c3
    have m4 := (hS.cell (p := ⟨B, 4, none⟩) hbB).trans c4
    have m5 := (hS.cell (p := ⟨B, 5, none⟩) hbB).trans c5
    have m6 := (hS.cell (p := ⟨B, 6, none⟩) hbB).trans c6
    go_simp
  try simp only [Act.put, List.setIfInBounds_toArray, List.set_cons_zero, List.set_cons_succ]
  refine wpAnyM_one (j := 2) (by kernel_rfl) rfl (by rfl) (fun K hK => ?_)
  go_simp
  refine ⟨trivial, rfl, callsIn_wide.2 ((HFI.out _).mono ?_)⟩
  rintro e w2 ⟨rfl, hb⟩
  have HS1 := HS0.trans (hb.mono HS0.size)
  clear hb
  refine hK _ _ HS1 ?_
  clear hK K
  try simp only [Act.put, List.setIfInBounds_toArray, List.set_cons_zero, List.set_cons_succ]
  refine wpAnyM_take (i := 3) (some 10) (v := .int .i64 p0) rfl rfl (by kernel_rfl) (by kernel_rfl) (by kernel_rfl) (fun _ _ _ h => h) (by rfl) (fun W' hS => ?_) HS1 ?_
  · go_simp
  try simp only [Act.put, List.setIfInBounds_toArray, List.set_cons_zero, List.set_cons_succ]
  refine wpAnyM_take (i := 4) (some 4) (v := .int .i64 p0) rfl rfl (by kernel_rfl) (by kernel_rfl) (by kernel_rfl) (fun _ _ _ h => h) (by rfl) (fun W' hS => ?_) HS1 ?_
  · go_simp
  try simp only [Act.put, List.setIfInBounds_toArray, List.set_cons_zero, List.set_cons_succ]
  refine wpAnyM_done (by kernel_rfl) ?_ _
  have HB2 := Lib.hid HS1
  have d3 := (HS1.cell (p := ⟨B, 3, none⟩) hbB).trans c3
  have HJ2 := Lib.hid (HJ.out _ _ _ _ H0.out (Keeps.of_below HS1 fun k hk _ => hk))
  clear HS0 HS1 c0 c1 c2 c3 c4 c5 c6 co
  have hnI : (es.length : Int) ≤ 1000 := by omega
  gi_wp2
  gi_loopw [5, 6, 14] (fun _ _ i wr => ∃ (n : Nat) (O : Nat → Prop), i = .int .i64 n ∧ n ≤ es.length ∧ Hid (∀ k, O k → W.heap.size ≤ k ∧ k < wr.heap.size) ∧ Hid (J O ((es.take n).drop p0.toNat) wr) ∧ Hid (Keeps (fun k => k < w.heap.size) W wr) ∧ W.heap.size ≤ wr.heap.size) (fun _ _ i _ => es.length - (intOf i).toNat)
  case atStart => exact ⟨0, fun _ => False, rfl, Nat.zero_le _, Lib.hid fun _ h => h.elim, Lib.hid (by simpa using HJ2.out), Lib.hid (Keeps.of_below HB2.out fun k hk _ => hk), HB2.out.size⟩
  case round =>
    obtain ⟨n, O, rfl, hn', HO, HJs, HK, hsz⟩ := hrel
    have hkp : ∀ b, b < w.heap.size → wr.heap[b]? = w.heap[b]? := fun b hb => (HK.out.block b (by omega) hb).trans (HWW.out.block b hb)
    by_cases hlt : n < es.length
    · obtain ⟨b, o, rfl, hbw, hc⟩ := HE.out.get (by omega)
      have hq0 := hc n hlt
      have hmem : es.getD n Le.zero ∈ es := by rw [getD_eq hlt]; exact List.getElem_mem hlt
      have hokx := HE.out.2 _ hmem
      have hsx : (es.getD n Le.zero).e.Sm := HSM.out.2.2 _ hmem
      have hzr : w.heap.size ≤ wr.heap.size := by omega
      have hokr : (es.getD n Le.zero).Ok wr := ⟨hokx.1, hokx.2.grown (o := none) ⟨fun _ g k _ => by simp, fun _ g k _ => by simp⟩ (fun b hb _ => hkp b hb) hzr⟩
      have HT : Hid (p0 ≤ (n : Int) → (es.take (n + 1)).drop p0.toNat = (es.take n).drop p0.toNat ++ [es.getD n Le.zero]) := Lib.hid fun h => by
        rw [take_succ_getD (d := Le.zero) hlt, List.drop_append_of_le_length (by rw [List.length_take]; omega)]
      have HT2 : Hid (¬ p0 ≤ (n : Int) → (es.take (n + 1)).drop p0.toNat = (es.take n).drop p0.toNat) := Lib.hid fun h => by
        rw [List.drop_eq_nil_of_le (by rw [List.length_take]; omega), List.drop_eq_nil_of_le (by rw [List.length_take]; omega)]
      have HPR : Hid (p0 ≤ (n : Int) → (es.take (n + 1)).drop p0.toNat <+: es.drop p0.toNat) := Lib.hid fun h => by
        rw [List.drop_take]
        exact List.take_prefix _ _
      obtain ⟨x, hx⟩ : ∃ x, es.getD n Le.zero = x := ⟨_, rfl⟩
      rw [hx] at hq0 hsx hokr HT
      obtain ⟨s0, s1, s2, s3, s4, s5, s6⟩ := hq0
      have g : ∀ j, wr.cell? ⟨b, j, none⟩ = w.cell? ⟨b, j, none⟩ := fun j => World.cell?_of_block (w := w) (a := ⟨b, j, none⟩) (hkp b hbw)
      have q0 := (g _).trans s0
      have q1 := (g _).trans s1
      have q2 := (g _).trans s2
      have q3 := (g _).trans s3
      have q4 := (g _).trans s4
      have q5 := (g _).trans s5
      have q6 := (g _).trans s6
      obtain ⟨w5, hw5⟩ : ∃ w5, wr.alloc (.cells #[.string ⟨x.key.toArray⟩, .bool x.gone, .int .i64 x.it.k, .string ⟨x.it.s.toArray⟩, .slice x.it.aF x.it.fs.length x.it.cF, .slice x.it.aL x.it.ws.length x.it.cL, .int .i64 x.it.x] 61) = w5 := ⟨_, rfl⟩
      have hb5 : Below wr.heap.size wr w5 := by rw [← hw5]; exact (Below.refl _ wr).alloc (Nat.le_refl _) _
      have hx5 : EffBox w5 wr.heap.size x := by rw [← hw5]; exact EffBox.new wr x
      have hs5 := hb5.size
      have hok5 : x.Ok w5 := ⟨hokr.1, hokr.2.later hb5⟩
      have hJ5 := HJ.out _ _ _ _ HJs.out (Keeps.of_below hb5 fun k hk _ => hk)
      have hK5 : Keeps (fun k => k < w.heap.size) W w5 := HK.out.trans (Keeps.of_below hb5 fun k hk _ => hk)
      have hlen : ((es.take n).drop p0.toNat).length < es.length := by rw [List.length_drop, List.length_take]; omega
      have HW5 := Lib.hid hw5
      have HX5 := Lib.hid hx5
      have HYY := Lib.hid (HY.out O _ x w5 (fun k hk => ⟨(HO.out k hk).1, Nat.lt_of_lt_of_le (HO.out k hk).2 hs5⟩) (by omega) hJ5 hlen ⟨hok5, hsx⟩)
      have HK5 := Lib.hid hK5
      have HJ5 := Lib.hid hJ5
      clear hkp hc hmem hokx hsx hokr hx s0 s1 s2 s3 s4 s5 s6 g hw5 hb5 hx5 hok5 hJ5 hK5 hlen HE
      obtain ⟨key, gone, k, s, aF, fs, cF, aL, ws, cL, xx⟩ := x
      simp only at q0 q1 q2 q3 q4 q5 q6 HW5
      have k0 : (0 : Int) ≤ (n : Int) := by omega
      have k1 : (n : Int) < (es.length : Int) := by omega
      gi_upto_region 4 with (fail)
      rw [HW5.out]
      clear q0 q1 q2 q3 q4 q5 q6
      obtain ⟨⟨x0, x1, x2, x3, x4, x5, x6⟩, -⟩ := HX5.out.at
      simp only at x0 x1 x2 x3 x4 x5 x6
      have hW5s : W.heap.size ≤ w5.heap.size := HK5.out.size
      by_cases hp : p0 ≤ (n : Int)
      · obtain ⟨fn', tmps, assign, body, hy, hRd⟩ := HYY.out
        have HRd := Lib.hid hRd
        unfold encE Le.v at hy
        simp only at hy
        have HT' := Lib.hid (HT.out hp)
        have HP' := Lib.hid (HPR.out hp)
        clear hRd HYY
        gi_wp2
        refine ⟨rfl, HRd.out.mono ?_⟩
        rintro e W3 ⟨hk3, O', hg3, hout⟩
        have hz3 := hk3.size
        have HK3 := Lib.hid (HK5.out.transIn hk3 fun j hj h => .inl h)
        have hO3 : Hid (∀ k, O' k → W.heap.size ≤ k ∧ k < W3.heap.size) := Lib.hid fun j hj => ⟨by
          rcases (hg3 j hj).2 with h | h
          · exact (HO.out j h).1
          · omega, (hg3 j hj).1⟩
        clear hk3 hg3
        rcases hout with ⟨rfl, hj⟩ | ⟨rfl, hj⟩
        · have HJ4 := Lib.hid hj
          clear hj
          gi_wp2
          go_roundw
          case rel => exact ⟨n + 1, O', by go_num, by omega, hO3, Lib.hid (by rw [HT'.out]; exact HJ4.out), HK3, by omega⟩
          case measure => simp [intOf]; omega
        · have HJ4 := Lib.hid hj
          clear hj
          gi_wp2
          refine bodyPost_ret (results_none rfl _ _ _) rfl ?_
          refine ⟨⟨_, rfl⟩, by omega, O', hO3.out, .inr ⟨_, ?_, HJ4.out⟩⟩
          have := HP'.out
          rwa [HT'.out] at this
      · have HT' := Lib.hid (HT2.out hp)
        clear HYY
        gi_wp2
        refine ⟨fun _ h => (by cases h), ?_⟩
        gi_wp2
        go_roundw
        case rel => exact ⟨n + 1, O, by go_num, by omega, Lib.hid (fun k hk => ⟨(HO.out k hk).1, Nat.lt_of_lt_of_le (HO.out k hk).2 hs5⟩), Lib.hid (by rw [HT'.out]; exact HJ5.out), HK5, by omega⟩
        case measure => simp [intOf]; omega
    · obtain rfl : n = es.length := by omega
      have k1 : ¬ (es.length : Int) < (es.length : Int) := by omega
      have hjs := HJs.out
      rw [List.take_length] at hjs
      have HJ2 := Lib.hid hjs
      clear hjs
      gi_wp2
      refine bodyPost_end (results_none rfl _ _ _) rfl ?_
      exact ⟨⟨_, rfl⟩, hsz, O, HO.out, .inl HJ2.out⟩
end Go.Proofs.Ytihleddhjmejoaa
