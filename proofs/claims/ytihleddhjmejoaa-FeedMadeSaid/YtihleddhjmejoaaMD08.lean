/- A row of effects whose items were made since: no list of theirs lies in the row's own block. Worlds that keep all but one row; a row of pairs whose items were made since; small items; what Copy tells. The contracts of strings.Compare and of the order by which the program's find goes (11.1). The contracts of slices.BinarySearchFunc at pairs and of the program's find (11.1). -/
import Derived.Test.YtihleddhjmejoaaMD05
import Derived.Deep.AppendLies
import Derived.Test.YtihleddhjmejoaaMD07
import Derived.Lib.Bytealg
import Derived.Lib.Walk
import Derived.LoopTactic
namespace Go.Proofs.Ytihleddhjmejoaa
open Go.RowKit Go.Shelf
set_option linter.unusedVariables false

/-- the lists lie elsewhere. -/
def Li.Far (o : Option Nat) (p : Li) : Prop := (p.fs ≠ [] → ∀ g k, p.aF = some ⟨g, k, none⟩ → some g ≠ o) ∧ (p.ws ≠ [] → ∀ g k, p.aL = some ⟨g, k, none⟩ → some g ≠ o)
theorem Fds.grown {w w' : World} {a : Option Addr} {cap : Nat} {fs : List (List UInt8 × List UInt8)} (h : Fds w a cap fs) (hk : fs ≠ [] → ∀ b off, a = some ⟨b, off, none⟩ → b < w.heap.size → w'.heap[b]? = w.heap[b]?) (hs : w.heap.size ≤ w'.heap.size) : Fds w' a cap fs := by
  by_cases h0 : fs = []
  · subst h0
    exact ⟨h.1, h.2.1, h.2.2.1, .inl rfl⟩
  · exact h.keep hs (hk h0)
theorem Wds.grown {w w' : World} {a : Option Addr} {cap : Nat} {ws : List (List UInt8)} (h : Wds w a cap ws) (hk : ws ≠ [] → ∀ b off, a = some ⟨b, off, none⟩ → b < w.heap.size → w'.heap[b]? = w.heap[b]?) (hs : w.heap.size ≤ w'.heap.size) : Wds w' a cap ws := by
  by_cases h0 : ws = []
  · subst h0
    exact ⟨h.1, h.2.1, h.2.2.1, .inl rfl⟩
  · exact h.keep hs (hk h0)
theorem Li.Ok.grown {w w' : World} {p : Li} {o : Option Nat} (h : p.Ok w) (hf : p.Far o) (hk : ∀ b, b < w.heap.size → some b ≠ o → w'.heap[b]? = w.heap[b]?) (hs : w.heap.size ≤ w'.heap.size) : p.Ok w' :=
  ⟨h.1, h.2.1.grown (fun h0 b off e hlt => hk b hlt (hf.1 h0 b off e)) hs, h.2.2.1.grown (fun h0 b off e hlt => hk b hlt (hf.2 h0 b off e)) hs, h.2.2.2⟩
/-- behind the row's end lies nothing of theirs. -/
theorem Li.Ok.far {w : World} {p : Li} (h : p.Ok w) {g : Nat} (hg : w.heap.size ≤ g) : p.Far (some g) := by
  refine ⟨fun h0 b k e he => ?_, fun h0 b k e he => ?_⟩
  · obtain ⟨b', o', e', hlt, -⟩ := h.2.1.get (List.length_pos_iff.2 h0)
    rw [e] at e'
    cases e'
    cases he
    omega
  · obtain ⟨b', o', e', hlt, -⟩ := h.2.2.1.get (List.length_pos_iff.2 h0)
    rw [e] at e'
    cases e'
    cases he
    omega

/-- effects in a row that the call owns, with items made since. -/
def RowX (w : World) (v : Value) (es : List Le) (W : World) : Prop := W.ownsRow w.heap.size 61 7 v es.length (es.map Le.cs).flatten ∧ Below w.heap.size w W ∧ ∀ e ∈ es, e.Ok W ∧ e.it.Far v.ownBlock
theorem RowX.none {w W : World} (hb : Below w.heap.size w W) : RowX w (.slice none 0 0) [] W := ⟨World.ownsRow_nil _ _ _ _, hb, by simp⟩
theorem ownsRow_later {W W' : World} {base : Nat} {t : TypeId} {sz n : Nat} {v : Value} {xs : List Value} (h : W.ownsRow base t sz v n xs) (hb : Below W.heap.size W W') : W'.ownsRow base t sz v n xs := by
  obtain ⟨h0, h1⟩ := h
  refine ⟨h0, ?_⟩
  rcases h1 with h1 | ⟨g, cap, cur, h1, hg, hgg, rest⟩
  · exact .inl h1
  · exact .inr ⟨g, cap, cur, h1, hg, (hb.block _ (Array.getElem?_eq_some_iff.1 hgg).1).trans hgg, rest⟩
theorem RowX.later {w W W' : World} {v : Value} {es : List Le} (h : RowX w v es W) (hb : Below W.heap.size W W') : RowX w v es W' :=
  ⟨ownsRow_later h.1 hb, h.2.1.trans (hb.mono h.2.1.size), fun e he => ⟨⟨(h.2.2 e he).1.1, (h.2.2 e he).1.2.later hb⟩, (h.2.2 e he).2⟩⟩
theorem RowX.efs {w W : World} {v : Value} {es : List Le} (h : RowX w v es W) : ∃ a cap, v = .slice a es.length cap ∧ Efs W a cap es ∧ (a = Option.none → cap = 0) := by
  obtain ⟨a, cap, hv, hr, hn, -⟩ := rows_of_own (css := es.map Le.cs) (by simpa using h.1) (fun c hc => by obtain ⟨p, -, rfl⟩ := List.mem_map.1 hc; rfl)
  exact ⟨a, cap, by simpa using hv, ⟨hr, fun p hp => (h.2.2 p hp).1⟩, hn⟩
theorem RowX.append {w W w1 : World} {v : Value} {g cap : Nat} {es : List Le} {e : Le} {o : Obj} (h : RowX w v es W) (h1 : w1.ownsRow w.heap.size 61 7 (.slice (some ⟨g, 0, Option.none⟩) (es.length + 1) cap) (es.length + 1) ((es.map Le.cs).flatten ++ e.cs))
    (hg : (W.alloc o).grownBy w1 v.ownBlock) (hat : v.ownBlock = some g ∨ g = (W.alloc o).heap.size) (he : e.Ok W) (hf : e.it.Far v.ownBlock) : RowX w (.slice (some ⟨g, 0, Option.none⟩) (es.length + 1) cap) (es ++ [e]) w1 := by
  have hK := Keeps.of_grown (S := fun k => some k ≠ v.ownBlock) hg fun r e h => h e.symm
  have hb0 := h.2.1.alloc h.2.1.size o
  have hb1 : Below w.heap.size w w1 := hb0.trans (hK.below hb0.size fun k hk e => by have := (h.1.lt k e.symm).1; omega)
  have hbA : Below W.heap.size W (W.alloc o) := (Below.refl _ W).alloc (Nat.le_refl _) o
  have hkp : ∀ b, b < W.heap.size → some b ≠ v.ownBlock → w1.heap[b]? = W.heap[b]? := fun b hb hne => by
    have h1 := hK.block b (Nat.lt_of_lt_of_le hb hbA.size) hne
    exact h1.trans (hbA.block b hb)
  have hsz : W.heap.size ≤ w1.heap.size := Nat.le_trans hbA.size hK.size
  have hfar : ∀ p : Li, p.Ok W → p.Far v.ownBlock → p.Far (some g) := fun p hp hpf => by
    rcases hat with hat | hat
    · rw [← hat]; exact hpf
    · exact hp.far (by rw [hat]; exact hbA.size)
  have hall : ∀ p ∈ es ++ [e], p.Ok W ∧ p.it.Far v.ownBlock := fun p hp => by
    rcases List.mem_append.1 hp with hp | hp
    · exact h.2.2 p hp
    · rw [List.mem_singleton.1 hp]; exact ⟨he, hf⟩
  refine ⟨by simpa using h1, hb1, fun p hp => ?_⟩
  obtain ⟨hp1, hp2⟩ := hall p hp
  exact ⟨⟨hp1.1, hp1.2.grown hp2 hkp hsz⟩, hfar p.it hp1.2 hp2⟩
end Go.Proofs.Ytihleddhjmejoaa
namespace Go.Proofs.Ytihleddhjmejoaa
open Go.RowKit Go.Shelf
set_option linter.unusedVariables false

/-- all is kept but the block of a row. -/
def Kp (u : Value) (A B : World) : Prop := Keeps (fun k => k < A.heap.size ∧ some k ≠ u.ownBlock) A B
/-- the row v is the row u, or newer. -/
def Nw (u v : Value) (A : World) : Prop := v.ownBlock = u.ownBlock ∨ ∀ g, v.ownBlock = some g → A.heap.size ≤ g
theorem Kp.refl (u : Value) (A : World) : Kp u A A := Keeps.refl _ A
theorem Kp.drew {u : Value} {A B : World} (h : Kp u A B) : Kp u A B.drew := Keeps.drew h
theorem Kp.next {u : Value} {A B C : World} (h : Kp u A B) (hb : Below B.heap.size B C) : Kp u A C :=
  Keeps.trans h (Keeps.of_below hb fun k hk _ => hk)
theorem Kp.of_below {u : Value} {A B : World} (h : Below A.heap.size A B) : Kp u A B := Keeps.of_below h fun k hk _ => hk
theorem Kp.alloc {u : Value} {A B : World} (h : Kp u A B) (o : Obj) : Kp u A (B.alloc o) := Keeps.alloc h o
theorem Kp.grown {u v : Value} {A B C : World} (h : Kp u A B) (hg : B.grownBy C v.ownBlock) (hv : Nw u v A) : Kp u A C :=
  Keeps.trans h (Keeps.of_grown hg fun r e hs => by
    rcases hv with hv | hv
    · exact hs.2 (e.symm.trans hv)
    · have := hv r e
      omega)
theorem Kp.trans {u v : Value} {A B C : World} (h : Kp u A B) (h2 : Kp v B C) (hv : Nw u v A) : Kp u A C :=
  Keeps.trans h (Keeps.mono h2 fun k hk hs => ⟨hk, fun e => by
    rcases hv with hv | hv
    · exact hs.2 (e.trans hv)
    · have := hv k e.symm
      omega⟩)
theorem Kp.cell {u : Value} {A B : World} (h : Kp u A B) {p : Addr} (hlt : p.block < A.heap.size) (hne : some p.block ≠ u.ownBlock) : B.cell? p = A.cell? p := Keeps.cell h hlt ⟨hlt, hne⟩
theorem Kp.block {u : Value} {A B : World} (h : Kp u A B) {b : Nat} (hlt : b < A.heap.size) (hne : some b ≠ u.ownBlock) : B.heap[b]? = A.heap[b]? := Keeps.block h b hlt ⟨hlt, hne⟩
theorem Kp.sz {u : Value} {A B : World} (h : Kp u A B) : A.heap.size ≤ B.heap.size := Keeps.size h
theorem Kp.below {u : Value} {A B : World} {n : Nat} (h : Kp u A B) (hn : n ≤ A.heap.size) (hu : ∀ g, u.ownBlock = some g → n ≤ g) : Below n A B :=
  Keeps.below h hn fun k hk => ⟨by omega, fun e => by have := hu k e.symm; omega⟩
theorem Nw.refl (u : Value) (A : World) : Nw u u A := .inl rfl
theorem Nw.trans {u v z : Value} {A B : World} (h : Nw u v A) (h2 : Nw v z B) (hs : A.heap.size ≤ B.heap.size) : Nw u z A := by
  rcases h2 with h2 | h2
  · rcases h with h | h
    · exact .inl (h2.trans h)
    · exact .inr fun g e => h g (h2 ▸ e)
  · exact .inr fun g e => Nat.le_trans hs (h2 g e)

/-- an item, a pair, an effect is small enough to be copied. -/
def It.I.Sm (i : It.I) : Prop := i.s.length ≤ 1000000 ∧ i.f.length ≤ 1000000 ∧ i.l.length ≤ 1000000 ∧ (∀ p ∈ i.f, p.1.length ≤ 1000000 ∧ p.2.length ≤ 1000000) ∧ ∀ t ∈ i.l, t.length ≤ 1000000
def Db.P.Sm (p : Db.P) : Prop := p.key.length ≤ 1000000 ∧ p.it.Sm
def Db.E.Sm (p : Db.E) : Prop := p.key.length ≤ 1000000 ∧ p.it.Sm

theorem PAt.keep {w w' : World} {b off : Nat} {p : Lp} (h : PAt w b off p) (hb : w'.heap[b]? = w.heap[b]?) : PAt w' b off p := by
  obtain ⟨h0, h1, h2, h3, h4, h5⟩ := h
  have g : ∀ o, w'.cell? ⟨b, o, none⟩ = w.cell? ⟨b, o, none⟩ := fun o => World.cell?_of_block (w := w) (a := ⟨b, o, none⟩) hb
  exact ⟨(g _).trans h0, (g _).trans h1, (g _).trans h2, (g _).trans h3, (g _).trans h4, (g _).trans h5⟩
theorem Li.Ok.kept {w w' : World} {p : Li} {u : Value} (h : p.Ok w) (hf : p.Far u.ownBlock) (hk : Kp u w w') : p.Ok w' :=
  h.grown hf (fun b hb hne => hk.block hb hne) hk.sz

/-- pairs in a row that the call owns, with items made since. -/
def RowQ (w : World) (v : Value) (es : List Lp) (W : World) : Prop := W.ownsRow w.heap.size 65 6 v es.length (es.map Lp.cs).flatten ∧ Below w.heap.size w W ∧ ∀ e ∈ es, e.Ok W ∧ e.it.Far v.ownBlock
theorem RowQ.none {w W : World} (hb : Below w.heap.size w W) : RowQ w (.slice none 0 0) [] W := ⟨World.ownsRow_nil _ _ _ _, hb, by simp⟩
theorem RowQ.later {w W W' : World} {v : Value} {es : List Lp} (h : RowQ w v es W) (hb : Below W.heap.size W W') : RowQ w v es W' :=
  ⟨ownsRow_later h.1 hb, h.2.1.trans (hb.mono h.2.1.size), fun e he => ⟨⟨(h.2.2 e he).1.1, (h.2.2 e he).1.2.later hb⟩, (h.2.2 e he).2⟩⟩
theorem RowQ.prs {w W : World} {v : Value} {es : List Lp} (h : RowQ w v es W) : ∃ a cap, v = .slice a es.length cap ∧ Prs W a cap es ∧ (a = Option.none → cap = 0) := by
  obtain ⟨a, cap, hv, hr, hn, -⟩ := rows_of_own (css := es.map Lp.cs) (by simpa using h.1) (fun c hc => by obtain ⟨p, -, rfl⟩ := List.mem_map.1 hc; rfl)
  exact ⟨a, cap, by simpa using hv, ⟨hr, fun p hp => (h.2.2 p hp).1⟩, hn⟩
theorem RowQ.lt {w W : World} {v : Value} {es : List Lp} (h : RowQ w v es W) : ∀ g, v.ownBlock = some g → w.heap.size ≤ g ∧ g < W.heap.size := fun g e => h.1.lt g e
theorem RowQ.append {w W w1 : World} {v : Value} {g cap : Nat} {es : List Lp} {e : Lp} {o : Obj} (h : RowQ w v es W) (h1 : w1.ownsRow w.heap.size 65 6 (.slice (some ⟨g, 0, Option.none⟩) (es.length + 1) cap) (es.length + 1) ((es.map Lp.cs).flatten ++ e.cs))
    (hg : (W.alloc o).grownBy w1 v.ownBlock) (hat : v.ownBlock = some g ∨ g = (W.alloc o).heap.size) (he : e.Ok W) (hf : e.it.Far v.ownBlock) : RowQ w (.slice (some ⟨g, 0, Option.none⟩) (es.length + 1) cap) (es ++ [e]) w1 := by
  have hK := Keeps.of_grown (S := fun k => some k ≠ v.ownBlock) hg fun r e h => h e.symm
  have hb0 := h.2.1.alloc h.2.1.size o
  have hb1 : Below w.heap.size w w1 := hb0.trans (hK.below hb0.size fun k hk e => by have := (h.1.lt k e.symm).1; omega)
  have hbA : Below W.heap.size W (W.alloc o) := (Below.refl _ W).alloc (Nat.le_refl _) o
  have hkp : ∀ b, b < W.heap.size → some b ≠ v.ownBlock → w1.heap[b]? = W.heap[b]? := fun b hb hne => by
    have h1 := hK.block b (Nat.lt_of_lt_of_le hb hbA.size) hne
    exact h1.trans (hbA.block b hb)
  have hsz : W.heap.size ≤ w1.heap.size := Nat.le_trans hbA.size hK.size
  have hfar : ∀ p : Li, p.Ok W → p.Far v.ownBlock → p.Far (some g) := fun p hp hpf => by
    rcases hat with hat | hat
    · rw [← hat]; exact hpf
    · exact hp.far (by rw [hat]; exact hbA.size)
  have hall : ∀ p ∈ es ++ [e], p.Ok W ∧ p.it.Far v.ownBlock := fun p hp => by
    rcases List.mem_append.1 hp with hp | hp
    · exact h.2.2 p hp
    · rw [List.mem_singleton.1 hp]; exact ⟨he, hf⟩
  refine ⟨by simpa using h1, hb1, fun p hp => ?_⟩
  obtain ⟨hp1, hp2⟩ := hall p hp
  exact ⟨⟨hp1.1, hp1.2.grown hp2 hkp hsz⟩, hfar p.it hp1.2 hp2⟩
theorem nw_at {W : World} {v : Value} {g n cap m : Nat} (hat : v.ownBlock = some g ∨ g = m) (hm : W.heap.size ≤ m) : Nw v (.slice (some ⟨g, 0, none⟩) n cap) W := by
  rcases hat with hat | hat
  · exact .inl (by rw [hat]; rfl)
  · refine .inr fun k e => ?_
    have : k = g := by
      have e2 : (some g : Option Nat) = some k := e
      injection e2 with e2
      exact e2.symm
    omega

/-- what Copy tells. -/
theorem CopyOut.li {k x : Int} {s : List UInt8} {fs : List (List UInt8 × List UInt8)} {ws : List (List UInt8)} {w W : World} {e : Ending} (hs : s.length ≤ 1000000) (hf : ∀ p ∈ fs, p.1.length ≤ 1000000 ∧ p.2.length ≤ 1000000) (hw : ∀ t ∈ ws, t.length ≤ 1000000) (h : CopyOut k x s fs ws w e W) :
    ∃ aF cF aL cL, e = .returned (.agg #[.int .i64 k, .string ⟨s.toArray⟩, .slice aF fs.length cF, .slice aL ws.length cL, .int .i64 x]) ∧ (⟨k, s, aF, fs, cF, aL, ws, cL, x⟩ : Li).Ok W ∧ Below w.heap.size w W ∧ ∀ o : Option Nat, (∀ g, o = some g → g < w.heap.size) → (⟨k, s, aF, fs, cF, aL, ws, cL, x⟩ : Li).Far o := by
  obtain ⟨aF, cF, aL, cL, he, hF, hL, -, hb⟩ := h
  obtain ⟨a1, c1, e1, f1, -⟩ := fds_of_row hF fun p hp => by have := hf p hp; omega
  obtain ⟨a2, c2, e2, f2, -⟩ := wds_of_row hL fun p hp => by have := hw p hp; omega
  injection e1 with e11 e12 e13
  injection e2 with e21 e22 e23
  subst e11 e13 e21 e23
  refine ⟨aF, cF, aL, cL, he, ⟨by show s.length ≤ _; omega, f1, f2, owns_none hF, owns_none hL⟩, hb, fun o ho => ⟨fun _ g j e eo => ?_, fun _ g j e eo => ?_⟩⟩
  · have := owns_far hF (ho g eo.symm) g j e
    omega
  · have := owns_far hL (ho g eo.symm) g j e
    omega
end Go.Proofs.Ytihleddhjmejoaa
namespace Go.Proofs.Ytihleddhjmejoaa
open Go.RowKit Go.Shelf
attribute [local go_sem] Oper.semAt_some
set_option linter.unusedVariables false
set_option linter.unusedSimpArgs false

/-- the sign of two texts. -/
def sgnK (a b : List UInt8) : Int := Lib.compareBytes a b
theorem sgnK_lt : ∀ a b : List UInt8, sgnK a b < 0 ↔ a < b
  | [], [] => by simp [sgnK, Lib.compareBytes]
  | [], _ :: _ => by simp [sgnK, Lib.compareBytes]
  | _ :: _, [] => by simp [sgnK, Lib.compareBytes]
  | a :: xs, b :: ys => by
    have ih := sgnK_lt xs ys
    unfold sgnK at ih ⊢
    rw [Lib.compareBytes, List.cons_lt_cons_iff]
    by_cases h1 : a < b
    · simp [h1]
    · by_cases h2 : b < a
      · have h3 : ¬ a = b := fun e => by subst e; exact h1 h2
        simp [h1, h2, h3]
      · have h3 : a = b := UInt8.le_antisymm (UInt8.not_lt.1 h2) (UInt8.not_lt.1 h1)
        simp [h1, h2, h3]
        subst h3
        simpa using ih
theorem sgnK_zero : ∀ a b : List UInt8, sgnK a b = 0 ↔ a = b
  | [], [] => by simp [sgnK, Lib.compareBytes]
  | [], _ :: _ => by simp [sgnK, Lib.compareBytes]
  | _ :: _, [] => by simp [sgnK, Lib.compareBytes]
  | a :: xs, b :: ys => by
    have ih := sgnK_zero xs ys
    unfold sgnK at ih ⊢
    rw [Lib.compareBytes]
    by_cases h1 : a < b
    · have h3 : ¬ a = b := fun e => by subst e; exact UInt8.lt_irrefl _ h1
      simp [h1, h3]
    · by_cases h2 : b < a
      · have h3 : ¬ a = b := fun e => by subst e; exact h1 h2
        simp [h1, h2, h3]
      · have h3 : a = b := UInt8.le_antisymm (UInt8.not_lt.1 h2) (UInt8.not_lt.1 h1)
        subst h3
        simpa [h1] using ih
theorem sgnK_range : ∀ a b : List UInt8, -1 ≤ sgnK a b ∧ sgnK a b ≤ 1
  | [], [] => by simp [sgnK, Lib.compareBytes]
  | [], _ :: _ => by simp [sgnK, Lib.compareBytes]
  | _ :: _, [] => by simp [sgnK, Lib.compareBytes]
  | a :: xs, b :: ys => by
    have ih := sgnK_range xs ys
    unfold sgnK at ih ⊢
    rw [Lib.compareBytes]
    split
    · simp
    · split
      · simp
      · exact ih

set_option maxHeartbeats 1000000 in
set_option maxRecDepth 100000 in
theorem cmpString_any (a b : List UInt8) (w : World) : Calls Try.prog 78 #[.string ⟨a.toArray⟩, .string ⟨b.toArray⟩] w fun e w' => e = .returned (.int .i64 (sgnK a b)) ∧ w = w' := by
  have hrun := Lib.run_compareString (P := Try.prog) ⟨a.toArray⟩ ⟨b.toArray⟩ w
  go_enter Try.func78, Try.ntmps78
  go_wp2
  rw [run_callFunc_extern Try.func93 (by kernel_rfl) (by kernel_rfl) (by kernel_rfl) (e := Extern.BytealgCompare.compare) (by kernel_rfl), hrun]
  simp only [Result.andThen]
  rw [Oper.upon_value]
  go_wp2
  go_ret
  exact ⟨rfl, rfl⟩

set_option maxHeartbeats 1000000 in
theorem compare_any (a b : List UInt8) (w : World) : Calls Try.prog 68 #[.string ⟨a.toArray⟩, .string ⟨b.toArray⟩] w fun e w' => e = .returned (.int .i64 (sgnK a b)) ∧ w = w' := by
  have HX := Lib.hid (cmpString_any a b w)
  go_enter Try.func68, Try.ntmps68
  go_wp2_with (go_at_call 78; refine HX.out.mono ?_; rintro e w1 ⟨rfl, rfl⟩)
  go_ret
  exact ⟨rfl, rfl⟩

set_option maxHeartbeats 1000000 in
theorem findCmp_any (key m s : List UInt8) (k x : Int) (aF : Option Addr) (nF cF : Nat) (aL : Option Addr) (nL cL : Nat) (w : World) :
    Calls Try.prog 67 #[.agg #[.string ⟨m.toArray⟩, .int .i64 k, .string ⟨s.toArray⟩, .slice aF nF cF, .slice aL nL cL, .int .i64 x], .string ⟨key.toArray⟩] w fun e w' => e = .returned (.int .i64 (sgnK m key)) ∧ Below w.heap.size w w' := by
  have HX := Lib.hid (fun W => compare_any m key W)
  go_enter Try.func67, Try.ntmps67
  go_wp2_with (go_at_call 68; refine (HX.out _).mono ?_; rintro e w1 ⟨rfl, hw⟩; have HW := Lib.hid hw; clear hw)
  go_ret
  exact ⟨rfl, by rw [← HW.out]; exact (Below.refl _ w).alloc (Nat.le_refl _) _⟩
end Go.Proofs.Ytihleddhjmejoaa
namespace Go.Proofs.Ytihleddhjmejoaa
open Go.RowKit Go.Shelf
attribute [local go_sem] Oper.semAt_some
set_option linter.unusedVariables false
set_option linter.unusedSimpArgs false

theorem lt_trK {a b c : List UInt8} (h : a < b) (h2 : b < c) : a < c := List.lt_trans h h2
/-- the keys ascend. -/
def AscL (ps : List Lp) : Prop := ∀ i j, i < j → j < ps.length → (ps.getD i Lp.zero).key < (ps.getD j Lp.zero).key
/-- the key stands, or would stand, at place k. -/
def FoundAt (ps : List Lp) (key : List UInt8) (k : Nat) (b : Bool) : Prop :=
  k ≤ ps.length ∧ (∀ j, j < k → (ps.getD j Lp.zero).key < key) ∧ (∀ j, k ≤ j → j < ps.length → ¬ (ps.getD j Lp.zero).key < key) ∧ (b = true ↔ k < ps.length ∧ (ps.getD k Lp.zero).key = key)
/-- what find tells. -/
def FindOut (ps : List Lp) (key : List UInt8) (w : World) (e : Ending) (W : World) : Prop :=
  ∃ k b, FoundAt ps key k b ∧ e = .returned (.tuple #[.int .i64 (k : Int), .bool b]) ∧ Below w.heap.size w W

set_option maxRecDepth 100000 in
set_option maxHeartbeats 4000000 in
theorem bsearch_any (a : Option Addr) (cap : Nat) (ps : List Lp) (key : List UInt8) (w : World) (hP : Prs w a cap ps) (hn : ps.length ≤ 1000000) (hu : AscL ps) :
    Calls Try.prog 66 #[.slice a ps.length cap, .string ⟨key.toArray⟩, .func (.func 67) #[] #[]] w (FindOut ps key w) := by
  have HP := Lib.hid hP
  have HU := Lib.hid hu
  have hnI : (ps.length : Int) ≤ 1000000 := by omega
  clear hP hu
  go_enter Try.func66, Try.ntmps66
  go_wp2
  go_loopw [9, 10, 11] (fun i j _ wr => ∃ lo hi : Nat, i = .int .i64 lo ∧ j = .int .i64 hi ∧ lo ≤ hi ∧ hi ≤ ps.length ∧ Hid (∀ k, k < lo → (ps.getD k Lp.zero).key < key) ∧ Hid (∀ k, hi ≤ k → k < ps.length → ¬ (ps.getD k Lp.zero).key < key) ∧ Hid (Below w.heap.size w wr)) (fun i j _ _ => (intOf j).toNat - (intOf i).toNat)
  case atStart => exact ⟨0, ps.length, rfl, rfl, Nat.zero_le _, Nat.le_refl _, Lib.hid fun k h => by omega, Lib.hid fun k h1 h2 => by omega, Lib.hid (Below.refl _ _)⟩
  case round =>
    obtain ⟨lo, hi, rfl, rfl, hlh, hin, HLo, HHi, HB⟩ := hrel
    have k0 : (0 : Int) ≤ (lo : Int) := by omega
    have k1 : (hi : Int) ≤ (ps.length : Int) := by omega
    by_cases hlt : lo < hi
    · obtain ⟨b, off, rfl, hb, hc⟩ := HP.out.get (by omega)
      have cm := (hc ((lo + hi) / 2) (by omega)).later hb HB.out
      have k2 : (lo : Int) < (hi : Int) := by omega
      have hmid : (((lo + hi) / 2 : Nat) : Int) = ((lo : Int) + (hi : Int)) / 2 := by omega
      have k3 : (lo : Int) ≤ ((lo : Int) + (hi : Int)) / 2 := by omega
      have k4 : ((lo : Int) + (hi : Int)) / 2 < (hi : Int) := by omega
      obtain ⟨m, hm⟩ : ∃ m, (lo + hi) / 2 = m := ⟨_, rfl⟩
      have HM : Hid (lo ≤ m ∧ m < hi ∧ (m : Int) = ((lo : Int) + (hi : Int)) / 2 ∧ m < ps.length) := Lib.hid ⟨by omega, by omega, by omega, by omega⟩
      obtain ⟨⟨mk, ⟨k, s, aF, fs, cF, aL, ws, cL, x⟩⟩, hy⟩ : ∃ y, ps.getD ((lo + hi) / 2) Lp.zero = y := ⟨_, rfl⟩
      rw [hy] at cm
      have HY : Hid ((ps.getD m Lp.zero).key = mk) := Lib.hid (by rw [← hm, hy])
      obtain ⟨q0, q1, q2, q3, q4, q5⟩ := cm
      simp only at q0 q1 q2 q3 q4 q5
      clear hc hmid hm hy
      have HC := Lib.hid (fun W => findCmp_any key mk s k x aF fs.length cF aL ws.length cL W)
      have HSG := Lib.hid (sgnK_lt mk key)
      obtain ⟨z, hz⟩ : ∃ z, sgnK mk key = z := ⟨_, rfl⟩
      rw [hz] at HC HSG
      clear hz
      by_cases hz0 : z < 0
      · have HYS := Lib.hid (HSG.out.1 hz0)
        go_wp2_with fail
        refine (HC.out _).mono ?_
        rintro e w1 ⟨rfl, hb1⟩
        have HB1 := Lib.hid (HB.out.trans (hb1.mono HB.out.size))
        clear hb1 q0 q1 q2 q3 q4 q5
        go_wp2_with fail
        go_roundw
        case rel =>
          obtain ⟨m1, m2, m3, m4⟩ := HM.out
          refine ⟨m + 1, hi, by rw [← m3]; go_num, rfl, by omega, hin, Lib.hid fun k hk => ?_, HHi, HB1⟩
          rcases Nat.lt_or_ge k m with h | h
          · have h1 := HU.out k m h m4
            rw [HY.out] at h1
            exact lt_trK h1 HYS.out
          · obtain rfl : k = m := by omega
            rw [HY.out]; exact HYS.out
        case measure =>
          obtain ⟨m1, m2, m3, m4⟩ := HM.out
          simp [intOf]; omega
      · have HYS : Hid (¬ mk < key) := Lib.hid fun h => hz0 (HSG.out.2 h)
        go_wp2_with fail
        refine (HC.out _).mono ?_
        rintro e w1 ⟨rfl, hb1⟩
        have HB1 := Lib.hid (HB.out.trans (hb1.mono HB.out.size))
        clear hb1 q0 q1 q2 q3 q4 q5
        go_wp2_with fail
        go_roundw
        case rel =>
          obtain ⟨m1, m2, m3, m4⟩ := HM.out
          refine ⟨lo, m, rfl, by rw [← m3], by omega, by omega, HLo, Lib.hid fun k hk1 hk2 h => ?_, HB1⟩
          rcases Nat.eq_or_lt_of_le hk1 with e | h'
          · subst e
            rw [HY.out] at h
            exact HYS.out h
          · have h1 := HU.out m k h' hk2
            rw [HY.out] at h1
            exact HYS.out (lt_trK h1 h)
        case measure =>
          obtain ⟨m1, m2, m3, m4⟩ := HM.out
          simp [intOf]; omega
    · obtain rfl : hi = lo := by omega
      by_cases hn2 : hi < ps.length
      · obtain ⟨b, off, rfl, hb, hc⟩ := HP.out.get (by omega)
        have cm := (hc hi hn2).later hb HB.out
        have k2 : (hi : Int) < (ps.length : Int) := by omega
        obtain ⟨⟨mk, ⟨k, s, aF, fs, cF, aL, ws, cL, x⟩⟩, hy⟩ : ∃ y, ps.getD hi Lp.zero = y := ⟨_, rfl⟩
        rw [hy] at cm
        have HY : Hid ((ps.getD hi Lp.zero).key = mk) := Lib.hid (by rw [hy])
        obtain ⟨q0, q1, q2, q3, q4, q5⟩ := cm
        simp only at q0 q1 q2 q3 q4 q5
        clear hc hy
        have HC := Lib.hid (fun W => findCmp_any key mk s k x aF fs.length cF aL ws.length cL W)
        have HSG := Lib.hid (sgnK_zero mk key)
        obtain ⟨z, hz⟩ : ∃ z, sgnK mk key = z := ⟨_, rfl⟩
        rw [hz] at HC HSG
        clear hz
        obtain ⟨g, hg⟩ : ∃ g, (z == 0) = g := ⟨_, rfl⟩
        have HG : Hid (g = true ↔ mk = key) := Lib.hid (by rw [← hg, beq_iff_eq]; exact HSG.out)
        have HN2 := Lib.hid hn2
        clear hn2
        go_wp2_with fail
        refine (HC.out _).mono ?_
        rintro e w1 ⟨rfl, hb1⟩
        have HB1 := Lib.hid (HB.out.trans (hb1.mono HB.out.size))
        clear hb1 q0 q1 q2 q3 q4 q5
        go_wp2_with fail
        go_ret2
        exact ⟨hi, g, ⟨hin, HLo.out, HHi.out, by rw [HY.out]; exact ⟨fun h => ⟨HN2.out, HG.out.1 h⟩, fun h => HG.out.2 h.2⟩⟩, by first | rfl | rw [hg], HB1.out⟩
      · have k2 : ¬ (hi : Int) < (ps.length : Int) := by omega
        have HN2 := Lib.hid hn2
        clear hn2
        go_wp2_with fail
        go_ret2
        exact ⟨hi, false, ⟨hin, HLo.out, HHi.out, ⟨fun h => (by cases h), fun h => absurd h.1 HN2.out⟩⟩, rfl, HB.out⟩

set_option maxHeartbeats 1000000 in
theorem find_any (a : Option Addr) (cap : Nat) (ps : List Lp) (key : List UInt8) (w : World) (hP : Prs w a cap ps) (hn : ps.length ≤ 1000000) (hu : AscL ps) :
    Calls Try.prog 50 #[.slice a ps.length cap, .string ⟨key.toArray⟩] w (FindOut ps key w) := by
  have HX := Lib.hid (bsearch_any a cap ps key w hP hn hu)
  clear hP hu hn
  go_enter Try.func50, Try.ntmps50
  go_wp2_with (go_at_call 66; refine HX.out.mono ?_; rintro e w1 ⟨k, b, hf, rfl, hb⟩; have HF := Lib.hid hf; have HB := Lib.hid hb; clear hf hb)
  go_ret2
  exact ⟨k, b, HF.out, rfl, HB.out⟩
end Go.Proofs.Ytihleddhjmejoaa
