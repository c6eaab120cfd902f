/- Spaces and effects as plain data. No program in it. Rows of pairs and of effects in memory. -/
import Derived.Test.YtihleddhjmejoaaMD01
import Derived.Test.YtihleddhjmejoaaMD04
import Derived.Maps.OwnIn
import Derived.Laws.AppendOwnNone
namespace Go.Proofs.Ytihleddhjmejoaa
namespace Db

/-- a key with its item. -/
structure P where
  key : List UInt8
  it : It.I
/-- an effect. -/
structure E where
  key : List UInt8
  gone : Bool
  it : It.I
def P.zero : P := ⟨[], ⟨0, [], [], [], 0⟩⟩
def E.zero : E := ⟨[], false, ⟨0, [], [], [], 0⟩⟩
/-- a space is valid: the keys are short and ascend, the items are valid. -/
def mayAt (db : List P) (k : Nat) : Bool := decide ((db.getD k P.zero).key.length ≤ 40) && It.mayB (db.getD k P.zero).it && (k == 0 || decide ((db.getD (k - 1) P.zero).key < (db.getD k P.zero).key))
def mayS (db : List P) : Bool := (List.range db.length).all (mayAt db)
/-- an effect is valid. -/
def mayE (e : E) : Bool := decide (e.key.length ≤ 40) && (e.gone || It.mayB e.it)
/-- the item of a key. -/
def raw (db : List P) (key : List UInt8) : Option It.I := (db.find? fun p => p.key = key).map P.it
/-- one effect: one round. -/
def stepA (e : E) (st : List P × Bool) (p : P) : List P × Bool :=
  let st' := if !st.2 && !decide (p.key < e.key) then (st.1 ++ [⟨e.key, e.it⟩], true) else st
  (if p.key = e.key then st'.1 else st'.1 ++ [p], st'.2)
def foldA (e : E) (db : List P) : List P × Bool := db.foldl (stepA e) ([], e.gone)
def app1 (db : List P) (e : E) : List P := let st := foldA e db; if st.2 then st.1 else st.1 ++ [⟨e.key, e.it⟩]
def app (db : List P) (l : List E) : List P := l.foldl app1 db
theorem foldA_snoc (e : E) (l : List P) (x : P) : foldA e (l ++ [x]) = stepA e (foldA e l) x := by simp [foldA, List.foldl_append]
theorem app_snoc (db : List P) (l : List E) (e : E) : app db (l ++ [e]) = app1 (app db l) e := by simp [app, List.foldl_append]
/-- two spaces are one. -/
def sameAt (l m : List P) (i : Nat) : Bool := decide ((l.getD i P.zero).key = (m.getD i P.zero).key) && It.sameB (l.getD i P.zero).it (m.getD i P.zero).it
def sameS (l m : List P) : Bool := decide (l.length = m.length) && (List.range l.length).all (sameAt l m)
def sameEAt (l m : List E) (i : Nat) : Bool := decide ((l.getD i E.zero).key = (m.getD i E.zero).key) && decide ((l.getD i E.zero).gone = (m.getD i E.zero).gone) && It.sameB (l.getD i E.zero).it (m.getD i E.zero).it
def sameES (l m : List E) : Bool := decide (l.length = m.length) && (List.range l.length).all (sameEAt l m)
def all (db : List P) : List E := db.map fun p => ⟨p.key, false, p.it⟩
end Db
end Go.Proofs.Ytihleddhjmejoaa
namespace Go.Proofs.Ytihleddhjmejoaa
open Go.RowKit Go.Shelf
set_option linter.unusedVariables false

/-- rows of so many cells each lie in a slice. -/
def RowsIn (sz : Nat) (w : World) (a : Option Addr) (cap : Nat) (css : List (List Value)) : Prop :=
  css.length ≤ cap ∧ cap ≤ 9223372036854775807 ∧ (css = [] ∨ ∃ b off, a = some ⟨b, off, none⟩ ∧ b < w.heap.size ∧ ∀ k, k < css.length → ∀ j, j < sz → w.cell? ⟨b, off + k * sz + j, none⟩ = (css.getD k [])[j]?)

theorem RowsIn.keep {sz : Nat} {w w' : World} {a : Option Addr} {cap : Nat} {css : List (List Value)} (h : RowsIn sz w a cap css) (hs : w.heap.size ≤ w'.heap.size) (hk : ∀ b off, a = some ⟨b, off, none⟩ → b < w.heap.size → w'.heap[b]? = w.heap[b]?) : RowsIn sz w' a cap css := by
  obtain ⟨h0, h1, h3⟩ := h
  refine ⟨h0, h1, ?_⟩
  rcases h3 with h3 | ⟨b, off, ha, hlt, hc⟩
  · exact .inl h3
  · exact .inr ⟨b, off, ha, Nat.lt_of_lt_of_le hlt hs, fun k hk' j hj => by
      rw [World.cell?_of_block (w := w) (a := ⟨b, off + k * sz + j, none⟩) (hk b off ha hlt)]
      exact hc k hk' j hj⟩
theorem RowsIn.later {sz : Nat} {w w' : World} {a : Option Addr} {cap : Nat} {css : List (List Value)} (h : RowsIn sz w a cap css) (hb : Below w.heap.size w w') : RowsIn sz w' a cap css :=
  h.keep hb.size fun b _ _ hlt => hb.block b hlt
theorem RowsIn.get {sz : Nat} {w : World} {a : Option Addr} {cap : Nat} {css : List (List Value)} (h : RowsIn sz w a cap css) (h0 : 0 < css.length) :
    ∃ b off, a = some ⟨b, off, none⟩ ∧ b < w.heap.size ∧ ∀ k, k < css.length → ∀ j, j < sz → w.cell? ⟨b, off + k * sz + j, none⟩ = (css.getD k [])[j]? := by
  rcases h.2.2 with rfl | h
  · simp at h0
  · exact h
theorem RowsIn.nil (sz : Nat) (w : World) : RowsIn sz w none 0 [] := ⟨Nat.le_refl _, by decide, .inl rfl⟩

theorem flat_len {sz : Nat} {css : List (List Value)} (h : ∀ c ∈ css, c.length = sz) : css.flatten.length = css.length * sz := by
  induction css with
  | nil => simp
  | cons c css ih =>
    rw [List.flatten_cons, List.length_append, ih fun x hx => h x (List.mem_cons_of_mem _ hx), h c (List.mem_cons_self ..), List.length_cons, Nat.succ_mul, Nat.add_comm]
theorem flat_at {sz : Nat} {css : List (List Value)} (h : ∀ c ∈ css, c.length = sz) (k : Nat) (hk : k < css.length) (j : Nat) (hj : j < sz) : css.flatten[k * sz + j]? = (css.getD k [])[j]? := by
  induction css generalizing k with
  | nil => simp at hk
  | cons c css ih =>
    have hc := h c (List.mem_cons_self ..)
    rw [List.flatten_cons]
    cases k with
    | zero => rw [List.getElem?_append_left (by omega)]; simp
    | succ k =>
      have e : (k + 1) * sz + j = sz + (k * sz + j) := by rw [Nat.succ_mul]; omega
      rw [List.getElem?_append_right (by rw [hc, e]; omega), hc, e, Nat.add_sub_cancel_left, ih (fun x hx => h x (List.mem_cons_of_mem _ hx)) k (by simpa using hk)]
      simp

/-- a slice that the call itself appended to. -/
theorem rows_of_own {sz : Nat} {t : TypeId} {w : World} {base : Nat} {v : Value} {css : List (List Value)} (h : w.ownsRow base t sz v css.length css.flatten) (hl : ∀ c ∈ css, c.length = sz) :
    ∃ a cap, v = .slice a css.length cap ∧ RowsIn sz w a cap css ∧ (a = none → cap = 0) ∧ (∀ g o, a = some ⟨g, o, none⟩ → base ≤ g) := by
  obtain ⟨_, hcase⟩ := h
  rcases hcase with ⟨h1, h2⟩ | ⟨g, cap, cur, h1, hgB, hgg, hnc, hcm, hcs, htk⟩
  · have h0 : css = [] := List.eq_nil_of_length_eq_zero h2
    subst h0
    exact ⟨none, 0, h1, RowsIn.nil sz w, fun _ => rfl, fun g o h => (by cases h)⟩
  · have hlt : g < w.heap.size := (Array.getElem?_eq_some_iff.1 hgg).1
    refine ⟨some ⟨g, 0, none⟩, cap, h1, ⟨hnc, by unfold maxLen at hcm; omega, .inr ⟨g, 0, rfl, hlt, ?_⟩⟩, fun h => (by cases h), fun g' o h => (by cases h; exact hgB)⟩
    intro k hk j hj
    rw [← flat_at hl k hk j hj, Nat.zero_add, cell_of_row w g (k * sz + j) cur t (0, 0) hgg, ← htk]
    have : k * sz + j < css.length * sz := by
      have : (k + 1) * sz ≤ css.length * sz := Nat.mul_le_mul_right _ hk
      rw [Nat.succ_mul] at this
      omega
    simp [this]

/-- an item with the places of its lists. -/
structure Li where
  k : Int
  s : List UInt8
  aF : Option Addr
  fs : List (List UInt8 × List UInt8)
  cF : Nat
  aL : Option Addr
  ws : List (List UInt8)
  cL : Nat
  x : Int
def Li.v (p : Li) : Value := itv p.k p.s p.aF p.fs.length p.cF p.aL p.ws.length p.cL p.x
def Li.cs (p : Li) : List Value := [.int .i64 p.k, .string ⟨p.s.toArray⟩, .slice p.aF p.fs.length p.cF, .slice p.aL p.ws.length p.cL, .int .i64 p.x]
def Li.i (p : Li) : It.I := ⟨p.k, p.s, p.fs, p.ws, p.x⟩
def Li.Ok (w : World) (p : Li) : Prop := p.s.length ≤ 9223372036854775807 ∧ Fds w p.aF p.cF p.fs ∧ Wds w p.aL p.cL p.ws ∧ (p.aF = none → p.cF = 0) ∧ (p.aL = none → p.cL = 0)
def Li.zero : Li := ⟨0, [], none, [], 0, none, [], 0, 0⟩
theorem Li.zero_ok (w : World) : Li.zero.Ok w := ⟨by decide, fds_nil w, wds_nil w, fun _ => rfl, fun _ => rfl⟩
theorem Li.Ok.later {w w' : World} {p : Li} (h : p.Ok w) (hb : Below w.heap.size w w') : p.Ok w' := ⟨h.1, h.2.1.later hb, h.2.2.1.later hb, h.2.2.2⟩

/-- a pair, an effect with the places of their lists. -/
structure Lp where
  key : List UInt8
  it : Li
structure Le where
  key : List UInt8
  gone : Bool
  it : Li
def Lp.cs (p : Lp) : List Value := .string ⟨p.key.toArray⟩ :: p.it.cs
def Le.cs (p : Le) : List Value := .string ⟨p.key.toArray⟩ :: .bool p.gone :: p.it.cs
def Lp.zero : Lp := ⟨[], Li.zero⟩
def Le.zero : Le := ⟨[], false, Li.zero⟩
def Lp.Ok (w : World) (p : Lp) : Prop := p.key.length ≤ 9223372036854775807 ∧ p.it.Ok w
def Le.Ok (w : World) (p : Le) : Prop := p.key.length ≤ 9223372036854775807 ∧ p.it.Ok w
def Lp.p (p : Lp) : Db.P := ⟨p.key, p.it.i⟩
def Le.e (p : Le) : Db.E := ⟨p.key, p.gone, p.it.i⟩

/-- a slice of pairs, of effects. -/
def Prs (w : World) (a : Option Addr) (cap : Nat) (ps : List Lp) : Prop := RowsIn 6 w a cap (ps.map Lp.cs) ∧ ∀ p ∈ ps, p.Ok w
def Efs (w : World) (a : Option Addr) (cap : Nat) (es : List Le) : Prop := RowsIn 7 w a cap (es.map Le.cs) ∧ ∀ p ∈ es, p.Ok w
theorem Prs.later {w w' : World} {a : Option Addr} {cap : Nat} {ps : List Lp} (h : Prs w a cap ps) (hb : Below w.heap.size w w') : Prs w' a cap ps := ⟨h.1.later hb, fun p hp => ⟨(h.2 p hp).1, (h.2 p hp).2.later hb⟩⟩
theorem Efs.later {w w' : World} {a : Option Addr} {cap : Nat} {ps : List Le} (h : Efs w a cap ps) (hb : Below w.heap.size w w') : Efs w' a cap ps := ⟨h.1.later hb, fun p hp => ⟨(h.2 p hp).1, (h.2 p hp).2.later hb⟩⟩
theorem prs_nil (w : World) : Prs w none 0 [] := ⟨RowsIn.nil 6 w, by simp⟩
theorem efs_nil (w : World) : Efs w none 0 [] := ⟨RowsIn.nil 7 w, by simp⟩
theorem Prs.len {w : World} {a : Option Addr} {cap : Nat} {ps : List Lp} (h : Prs w a cap ps) : ps.length ≤ cap ∧ cap ≤ 9223372036854775807 := ⟨by simpa using h.1.1, h.1.2.1⟩
theorem Efs.len {w : World} {a : Option Addr} {cap : Nat} {ps : List Le} (h : Efs w a cap ps) : ps.length ≤ cap ∧ cap ≤ 9223372036854775807 := ⟨by simpa using h.1.1, h.1.2.1⟩
theorem Prs.at {w : World} {a : Option Addr} {cap : Nat} {ps : List Lp} (h : Prs w a cap ps) {k : Nat} (hk : k < ps.length) : (ps.getD k Lp.zero).Ok w := by
  rw [getD_eq hk]; exact h.2 _ (List.getElem_mem hk)
theorem Efs.at {w : World} {a : Option Addr} {cap : Nat} {ps : List Le} (h : Efs w a cap ps) {k : Nat} (hk : k < ps.length) : (ps.getD k Le.zero).Ok w := by
  rw [getD_eq hk]; exact h.2 _ (List.getElem_mem hk)

/-- the cells of a pair, of an effect at a place. -/
def PAt (w : World) (b off : Nat) (p : Lp) : Prop :=
  w.cell? ⟨b, off, none⟩ = some (.string ⟨p.key.toArray⟩) ∧ w.cell? ⟨b, off + 1, none⟩ = some (.int .i64 p.it.k) ∧ w.cell? ⟨b, off + 2, none⟩ = some (.string ⟨p.it.s.toArray⟩) ∧
    w.cell? ⟨b, off + 3, none⟩ = some (.slice p.it.aF p.it.fs.length p.it.cF) ∧ w.cell? ⟨b, off + 4, none⟩ = some (.slice p.it.aL p.it.ws.length p.it.cL) ∧ w.cell? ⟨b, off + 5, none⟩ = some (.int .i64 p.it.x)
def EAt (w : World) (b off : Nat) (p : Le) : Prop :=
  w.cell? ⟨b, off, none⟩ = some (.string ⟨p.key.toArray⟩) ∧ w.cell? ⟨b, off + 1, none⟩ = some (.bool p.gone) ∧ w.cell? ⟨b, off + 2, none⟩ = some (.int .i64 p.it.k) ∧ w.cell? ⟨b, off + 3, none⟩ = some (.string ⟨p.it.s.toArray⟩) ∧
    w.cell? ⟨b, off + 4, none⟩ = some (.slice p.it.aF p.it.fs.length p.it.cF) ∧ w.cell? ⟨b, off + 5, none⟩ = some (.slice p.it.aL p.it.ws.length p.it.cL) ∧ w.cell? ⟨b, off + 6, none⟩ = some (.int .i64 p.it.x)
theorem map_getD {α β : Type} (f : α → β) (l : List α) (d : α) (e : β) {k : Nat} (hk : k < l.length) : (l.map f).getD k e = f (l.getD k d) := by
  rw [getD_eq hk, getD_eq (l := l.map f) (by simpa using hk), List.getElem_map]
theorem Prs.get {w : World} {a : Option Addr} {cap : Nat} {ps : List Lp} (h : Prs w a cap ps) (h0 : 0 < ps.length) :
    ∃ b off, a = some ⟨b, off, none⟩ ∧ b < w.heap.size ∧ ∀ k, k < ps.length → PAt w b (off + k * 6) (ps.getD k Lp.zero) := by
  obtain ⟨b, off, ha, hlt, hc⟩ := h.1.get (by simpa using h0)
  refine ⟨b, off, ha, hlt, fun k hk => ?_⟩
  have hk' : k < (ps.map Lp.cs).length := by simpa using hk
  have e := map_getD Lp.cs ps Lp.zero [] hk
  have f := fun j hj => (hc k hk' j hj).trans (congrArg (·[j]?) e)
  exact ⟨f 0 (by omega), f 1 (by omega), f 2 (by omega), f 3 (by omega), f 4 (by omega), f 5 (by omega)⟩
theorem Efs.get {w : World} {a : Option Addr} {cap : Nat} {ps : List Le} (h : Efs w a cap ps) (h0 : 0 < ps.length) :
    ∃ b off, a = some ⟨b, off, none⟩ ∧ b < w.heap.size ∧ ∀ k, k < ps.length → EAt w b (off + k * 7) (ps.getD k Le.zero) := by
  obtain ⟨b, off, ha, hlt, hc⟩ := h.1.get (by simpa using h0)
  refine ⟨b, off, ha, hlt, fun k hk => ?_⟩
  have hk' : k < (ps.map Le.cs).length := by simpa using hk
  have e := map_getD Le.cs ps Le.zero [] hk
  have f := fun j hj => (hc k hk' j hj).trans (congrArg (·[j]?) e)
  exact ⟨f 0 (by omega), f 1 (by omega), f 2 (by omega), f 3 (by omega), f 4 (by omega), f 5 (by omega), f 6 (by omega)⟩
theorem PAt.later {w w' : World} {b off : Nat} {p : Lp} (h : PAt w b off p) (hlt : b < w.heap.size) (hb : Below w.heap.size w w') : PAt w' b off p := by
  obtain ⟨h0, h1, h2, h3, h4, h5⟩ := h
  have g : ∀ o, w'.cell? ⟨b, o, none⟩ = w.cell? ⟨b, o, none⟩ := fun o => hb.cell (p := ⟨b, o, none⟩) hlt
  exact ⟨(g _).trans h0, (g _).trans h1, (g _).trans h2, (g _).trans h3, (g _).trans h4, (g _).trans h5⟩
theorem EAt.later {w w' : World} {b off : Nat} {p : Le} (h : EAt w b off p) (hlt : b < w.heap.size) (hb : Below w.heap.size w w') : EAt w' b off p := by
  obtain ⟨h0, h1, h2, h3, h4, h5, h6⟩ := h
  have g : ∀ o, w'.cell? ⟨b, o, none⟩ = w.cell? ⟨b, o, none⟩ := fun o => hb.cell (p := ⟨b, o, none⟩) hlt
  exact ⟨(g _).trans h0, (g _).trans h1, (g _).trans h2, (g _).trans h3, (g _).trans h4, (g _).trans h5, (g _).trans h6⟩

/-- pairs, effects in a row that the call owns. -/
def RowP (w : World) (v : Value) (ps : List Lp) (W : World) : Prop := W.ownsRow w.heap.size 65 6 v ps.length (ps.map Lp.cs).flatten ∧ Below w.heap.size w W ∧ ∀ p ∈ ps, p.Ok w
def RowE (w : World) (v : Value) (ps : List Le) (W : World) : Prop := W.ownsRow w.heap.size 61 7 v ps.length (ps.map Le.cs).flatten ∧ Below w.heap.size w W ∧ ∀ p ∈ ps, p.Ok w
theorem RowP.none {w W : World} (hb : Below w.heap.size w W) : RowP w (.slice none 0 0) [] W := ⟨World.ownsRow_nil _ _ _ _, hb, by simp⟩
theorem RowE.none {w W : World} (hb : Below w.heap.size w W) : RowE w (.slice none 0 0) [] W := ⟨World.ownsRow_nil _ _ _ _, hb, by simp⟩
theorem RowP.prs {w W : World} {v : Value} {ps : List Lp} (h : RowP w v ps W) : ∃ a cap, v = .slice a ps.length cap ∧ Prs W a cap ps ∧ (a = Option.none → cap = 0) := by
  obtain ⟨a, cap, hv, hr, hn, -⟩ := rows_of_own (css := ps.map Lp.cs) (by simpa using h.1) (fun c hc => by obtain ⟨p, -, rfl⟩ := List.mem_map.1 hc; rfl)
  exact ⟨a, cap, by simpa using hv, ⟨hr, fun p hp => ⟨(h.2.2 p hp).1, (h.2.2 p hp).2.later h.2.1⟩⟩, hn⟩
theorem RowE.efs {w W : World} {v : Value} {ps : List Le} (h : RowE w v ps W) : ∃ a cap, v = .slice a ps.length cap ∧ Efs W a cap ps ∧ (a = Option.none → cap = 0) := by
  obtain ⟨a, cap, hv, hr, hn, -⟩ := rows_of_own (css := ps.map Le.cs) (by simpa using h.1) (fun c hc => by obtain ⟨p, -, rfl⟩ := List.mem_map.1 hc; rfl)
  exact ⟨a, cap, by simpa using hv, ⟨hr, fun p hp => ⟨(h.2.2 p hp).1, (h.2.2 p hp).2.later h.2.1⟩⟩, hn⟩
theorem grown_below {w W w1 : World} {v : Value} {t : TypeId} {n sz : Nat} {xs : List Value} {o : Obj} (h : W.ownsRow w.heap.size t sz v n xs) (hb0 : Below w.heap.size w W) (hg : (W.alloc o).grownBy w1 v.ownBlock) : Below w.heap.size w w1 := by
  have hb := hb0.alloc hb0.size o
  exact hb.trans ((Keeps.of_grown (S := fun k => some k ≠ v.ownBlock) hg fun r e h => h e.symm).below hb.size fun k hk e => by have := (h.lt k e.symm).1; omega)
theorem row_news (w : World) (B : Nat) (hB : w.heap.size = B) (xs : List Value) (t : TypeId) : ∀ j u, xs[j]? = some u → (w.alloc (.cells xs.toArray t)).cell? ((⟨B, 0, Option.none⟩ : Addr).add j) = some u := by
  intro j u h
  subst hB
  have e := cell_of_row (w.alloc (.cells xs.toArray t)) w.heap.size j xs.toArray t (0, 0) (World.alloc_heap_new w _)
  have : (Addr.add ⟨w.heap.size, 0, Option.none⟩ j) = ⟨w.heap.size, j, Option.none⟩ := by
    unfold Addr.add
    split <;> first | omega | rfl | simp
  rw [this, e]
  simpa using h
theorem Le.cs_one (e : Le) : ∀ u ∈ e.cs, u.oneCell' = true := by simp [Le.cs, Li.cs, Value.oneCell']
theorem Lp.cs_one (e : Lp) : ∀ u ∈ e.cs, u.oneCell' = true := by simp [Lp.cs, Li.cs, Value.oneCell']
theorem infoE : (Try.prog.info? 61).map (fun i => (i.zero, i.size, i.bytes)) = some (some (.agg #[.string ⟨#[]⟩, .bool false, .int .i64 0, .string ⟨#[]⟩, .slice none 0 0, .slice none 0 0, .int .i64 0]), 7, 104) := by kernel_rfl
theorem infoP : (Try.prog.info? 65).map (fun i => (i.zero, i.size, i.bytes)) = some (some (.agg #[.string ⟨#[]⟩, .int .i64 0, .string ⟨#[]⟩, .slice none 0 0, .slice none 0 0, .int .i64 0]), 6, 96) := by kernel_rfl
theorem RowE.append {w W w1 : World} {v v' : Value} {es : List Le} {e : Le} {o : Obj} (h : RowE w v es W) (h1 : w1.ownsRow w.heap.size 61 7 v' (es.length + 1) ((es.map Le.cs).flatten ++ e.cs)) (hg : (W.alloc o).grownBy w1 v.ownBlock) (he : e.Ok w) : RowE w v' (es ++ [e]) w1 := by
  refine ⟨by simpa using h1, grown_below h.1 h.2.1 hg, fun p hp => ?_⟩
  rcases List.mem_append.1 hp with hp | hp
  · exact h.2.2 p hp
  · rw [List.mem_singleton.1 hp]; exact he
theorem RowP.append {w W w1 : World} {v v' : Value} {es : List Lp} {e : Lp} {o : Obj} (h : RowP w v es W) (h1 : w1.ownsRow w.heap.size 65 6 v' (es.length + 1) ((es.map Lp.cs).flatten ++ e.cs)) (hg : (W.alloc o).grownBy w1 v.ownBlock) (he : e.Ok w) : RowP w v' (es ++ [e]) w1 := by
  refine ⟨by simpa using h1, grown_below h.1 h.2.1 hg, fun p hp => ?_⟩
  rcases List.mem_append.1 hp with hp | hp
  · exact h.2.2 p hp
  · rw [List.mem_singleton.1 hp]; exact he
/-- nothing was written but what is drawn. -/
theorem RowE.drew {w W : World} {v : Value} {es : List Le} (h : RowE w v es W) : RowE w v es W.drew := ⟨h.1, h.2.1.drew, h.2.2⟩
theorem RowP.drew {w W : World} {v : Value} {es : List Lp} (h : RowP w v es W) : RowP w v es W.drew := ⟨h.1, h.2.1.drew, h.2.2⟩
end Go.Proofs.Ytihleddhjmejoaa
