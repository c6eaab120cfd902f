/- Nodes and moves in memory (14.1). What becomes of a slot that moves, one key after the other. -/
import Derived.Test.YtahmddopbmjepaaDoorRC08
import Derived.Test.YtahmddopbmjepaaDoorRC12
import Derived.Test.YtahmddopbmjepaaDoorRC13
import Derived.Test.YtahmddopbmjepaaDoorRC14
namespace Go.Proofs.YtahmddopbmjepaaDoor
open Go.RowKit Go.Shelf

namespace Rt
theorem at_key (ks : List Bs) (j : Nat) (h : j < ks.length) : ks.getD j [] ∈ ks := by rw [getD_eq h]; exact List.getElem_mem h
theorem key_at {ks : List Bs} {k : Bs} (h : k ∈ ks) : ∃ j, j < ks.length ∧ ks.getD j [] = k := by
  obtain ⟨j, hj, rfl⟩ := List.getElem_of_mem h
  exact ⟨j, hj, getD_eq hj⟩
theorem moving_early {has : Bs → Bool} {m : Mv} {ks : List Bs} {j : Nat} (hj : j < ks.length) (h : locked m (ks.getD j []) = true ∨ has (ks.getD j []) ≠ has (ks.getD 0 [])) : movingS has m ks = again := by
  unfold movingS
  have h0 := at_key ks 0 (by omega)
  have hj' := at_key ks j hj
  split
  · rfl
  · rename_i hl
    rcases h with h | h
    · exact (hl (List.any_eq_true.2 ⟨_, hj', h⟩)).elim
    · rw [if_neg, if_neg]
      · intro ha
        rw [List.all_eq_true] at ha
        have h1 := ha _ h0
        have h2 := ha _ hj'
        simp only [Bool.not_eq_true'] at h1 h2
        exact h (h2.trans h1.symm)
      · intro ha
        rw [List.all_eq_true] at ha
        exact h ((ha _ hj').trans (ha _ h0).symm)
theorem moving_same {has : Bs → Bool} {m : Mv} {ks : List Bs} (h0 : 0 < ks.length) (h : ∀ j, j < ks.length → locked m (ks.getD j []) = false ∧ has (ks.getD j []) = has (ks.getD 0 [])) :
    movingS has m ks = if has (ks.getD 0 []) then [] else redir ask m.s m.t := by
  unfold movingS
  rw [if_neg]
  · cases hh : has (ks.getD 0 []) with
    | true =>
      rw [if_pos]
      · rfl
      · rw [List.all_eq_true]
        intro k hk
        obtain ⟨j, hj, rfl⟩ := key_at hk
        rw [(h j hj).2, hh]
    | false =>
      rw [if_neg, if_pos]
      · rfl
      · rw [List.all_eq_true]
        intro k hk
        obtain ⟨j, hj, rfl⟩ := key_at hk
        rw [(h j hj).2, hh]; rfl
      · intro ha
        rw [List.all_eq_true] at ha
        have := ha _ (at_key ks 0 h0)
        rw [hh] at this
        cases this
  · intro ha
    obtain ⟨k, hk, hl⟩ := List.any_eq_true.1 ha
    obtain ⟨j, hj, rfl⟩ := key_at hk
    rw [(h j hj).1] at hl
    cases hl
theorem locked_iff {m : Mv} {k : Bs} : locked m k = true ↔ 0 < m.n ∧ k = m.k := by simp [locked]

def Mv.cs (m : Mv) : List Value := [.int .i64 m.s, .int .i64 m.t, .int .i64 m.n, .string ⟨m.k.toArray⟩]
def Mv.v (m : Mv) : Value := .agg #[.int .i64 m.s, .int .i64 m.t, .int .i64 m.n, .string ⟨m.k.toArray⟩]
/-- may its numbers be ints, its key a text? -/
def Mv.Ok (m : Mv) : Prop := (-9223372036854775808 ≤ m.s ∧ m.s ≤ 9223372036854775807) ∧ (-9223372036854775808 ≤ m.t ∧ m.t ≤ 9223372036854775807) ∧ (-9223372036854775808 ≤ m.n ∧ m.n ≤ 9223372036854775807) ∧ m.k.length ≤ 9223372036854775807
end Rt

/-- a slice of moves. -/
def Mvs (w : World) (a : Option Addr) (cap : Nat) (l : List Rt.Mv) : Prop := RowsIn 4 w a cap (l.map Rt.Mv.cs) ∧ ∀ m ∈ l, m.Ok
theorem Mvs.later {w w' : World} {a : Option Addr} {cap : Nat} {l : List Rt.Mv} (h : Mvs w a cap l) (hb : Below w.heap.size w w') : Mvs w' a cap l := ⟨h.1.later hb, h.2⟩
theorem mvs_nil (w : World) : Mvs w none 0 [] := ⟨RowsIn.nil 4 w, by simp⟩
theorem Mvs.len {w : World} {a : Option Addr} {cap : Nat} {l : List Rt.Mv} (h : Mvs w a cap l) : l.length ≤ cap ∧ cap ≤ 9223372036854775807 := ⟨by simpa using h.1.1, h.1.2.1⟩
def MAt (w : World) (b off : Nat) (m : Rt.Mv) : Prop :=
  w.cell? ⟨b, off, none⟩ = some (.int .i64 m.s) ∧ w.cell? ⟨b, off + 1, none⟩ = some (.int .i64 m.t) ∧ w.cell? ⟨b, off + 2, none⟩ = some (.int .i64 m.n) ∧ w.cell? ⟨b, off + 3, none⟩ = some (.string ⟨m.k.toArray⟩)
theorem Mvs.get {w : World} {a : Option Addr} {cap : Nat} {l : List Rt.Mv} (h : Mvs w a cap l) (h0 : 0 < l.length) :
    ∃ b off, a = some ⟨b, off, none⟩ ∧ b < w.heap.size ∧ ∀ k, k < l.length → MAt w b (off + k * 4) (l.getD k Rt.Mv.zero) := by
  obtain ⟨b, off, ha, hlt, hc⟩ := h.1.get (by simpa using h0)
  refine ⟨b, off, ha, hlt, fun k hk => ?_⟩
  have hk' : k < (l.map Rt.Mv.cs).length := by simpa using hk
  have e := map_getD Rt.Mv.cs l Rt.Mv.zero [] hk
  have f := fun j hj => (hc k hk' j hj).trans (congrArg (·[j]?) e)
  exact ⟨f 0 (by omega), f 1 (by omega), f 2 (by omega), f 3 (by omega)⟩
theorem Mvs.ok {w : World} {a : Option Addr} {cap : Nat} {l : List Rt.Mv} (h : Mvs w a cap l) {k : Nat} (hk : k < l.length) : (l.getD k Rt.Mv.zero).Ok := by
  rw [getD_eq hk]; exact h.2 _ (List.getElem_mem hk)

/-- a move in a block of its own. -/
def MvBox (w : World) (B : Nat) (s t n : Int) (k : List UInt8) : Prop := w.heap[B]? = some (.cells #[.int .i64 s, .int .i64 t, .int .i64 n, .string ⟨k.toArray⟩] 61 (0, 0))
theorem MvBox.new (w : World) (s t n : Int) (k : List UInt8) : MvBox (w.alloc (.cells #[.int .i64 s, .int .i64 t, .int .i64 n, .string ⟨k.toArray⟩] 61)) w.heap.size s t n k := World.alloc_heap_new w _
theorem MvBox.later {w w' : World} {B n0 : Nat} {s t n : Int} {k : List UInt8} (h : MvBox w B s t n k) (hb : Below n0 w w') (hB : B < n0) : MvBox w' B s t n k := (hb.block B hB).trans h
theorem MvBox.at {w : World} {B : Nat} {s t n : Int} {k : List UInt8} (h : MvBox w B s t n k) : w.cell? ⟨B, 0, none⟩ = some (.int .i64 s) ∧ w.cell? ⟨B, 1, none⟩ = some (.int .i64 t) ∧ w.cell? ⟨B, 2, none⟩ = some (.int .i64 n) ∧ w.cell? ⟨B, 3, none⟩ = some (.string ⟨k.toArray⟩) := by
  unfold MvBox at h
  simp [World.cell?, h]

/-- a slice's three parts. -/
structure SV where
  a : Option Addr
  n : Nat
  c : Nat
/-- a node's parts: those that count here, and the others. -/
structure NV where
  ct : Int
  id : Int
  ms : Int
  ep : Int
  vo : Int
  cl : SV
  db : SV
  mv : SV
  la : Int
  se : SV
  f0 : Int
  f1 : Int
  f2 : Int
  fb : SV
  f4 : Int
  f5 : Int
  f6 : Int
  wh : SV
  ws : SV
  ak : Int
  vt : SV
  wa : Int
def NV.cells (n : NV) : Array Value := #[.int .i64 n.ct, .int .i64 n.id, .int .i64 n.ms, .int .i64 n.ep, .int .i64 n.vo, .slice n.cl.a n.cl.n n.cl.c, .slice n.db.a n.db.n n.db.c, .slice n.mv.a n.mv.n n.mv.c, .int .i64 n.la, .slice n.se.a n.se.n n.se.c,
  .int .i64 n.f0, .int .i64 n.f1, .int .i64 n.f2, .slice n.fb.a n.fb.n n.fb.c, .int .i64 n.f4, .int .i64 n.f5, .int .i64 n.f6, .slice n.wh.a n.wh.n n.wh.c, .slice n.ws.a n.ws.n n.ws.c, .int .i64 n.ak, .slice n.vt.a n.vt.n n.vt.c, .int .i64 n.wa]
def NdBox (w : World) (B : Nat) (n : NV) : Prop := w.heap[B]? = some (.cells n.cells 36 (0, 0))
theorem NdBox.new (w : World) (n : NV) : NdBox (w.alloc (.cells n.cells 36)) w.heap.size n := World.alloc_heap_new w _
theorem NdBox.later {w w' : World} {B n0 : Nat} {n : NV} (h : NdBox w B n) (hb : Below n0 w w') (hB : B < n0) : NdBox w' B n := (hb.block B hB).trans h
theorem NdBox.few {w : World} {B : Nat} {n : NV} (h : NdBox w B n) : w.cell? ⟨B, 1, none⟩ = some (.int .i64 n.id) ∧ w.cell? ⟨B, 2, none⟩ = some (.int .i64 n.ms) ∧ w.cell? ⟨B, 5, none⟩ = some (.slice n.cl.a n.cl.n n.cl.c) ∧ w.cell? ⟨B, 6, none⟩ = some (.slice n.db.a n.db.n n.db.c) ∧ w.cell? ⟨B, 7, none⟩ = some (.slice n.mv.a n.mv.n n.mv.c) := by
  unfold NdBox NV.cells at h
  simp [World.cell?, h]
theorem NdBox.all {w : World} {B : Nat} {n : NV} (h : NdBox w B n) : w.cell? ⟨B, 0, none⟩ = some (.int .i64 n.ct) ∧ w.cell? ⟨B, 1, none⟩ = some (.int .i64 n.id) ∧ w.cell? ⟨B, 2, none⟩ = some (.int .i64 n.ms) ∧ w.cell? ⟨B, 3, none⟩ = some (.int .i64 n.ep) ∧ w.cell? ⟨B, 4, none⟩ = some (.int .i64 n.vo) ∧ w.cell? ⟨B, 5, none⟩ = some (.slice n.cl.a n.cl.n n.cl.c) ∧ w.cell? ⟨B, 6, none⟩ = some (.slice n.db.a n.db.n n.db.c) ∧ w.cell? ⟨B, 7, none⟩ = some (.slice n.mv.a n.mv.n n.mv.c) ∧ w.cell? ⟨B, 8, none⟩ = some (.int .i64 n.la) ∧ w.cell? ⟨B, 9, none⟩ = some (.slice n.se.a n.se.n n.se.c) ∧ w.cell? ⟨B, 10, none⟩ = some (.int .i64 n.f0) ∧ w.cell? ⟨B, 11, none⟩ = some (.int .i64 n.f1) ∧ w.cell? ⟨B, 12, none⟩ = some (.int .i64 n.f2) ∧ w.cell? ⟨B, 13, none⟩ = some (.slice n.fb.a n.fb.n n.fb.c) ∧ w.cell? ⟨B, 14, none⟩ = some (.int .i64 n.f4) ∧ w.cell? ⟨B, 15, none⟩ = some (.int .i64 n.f5) ∧ w.cell? ⟨B, 16, none⟩ = some (.int .i64 n.f6) ∧ w.cell? ⟨B, 17, none⟩ = some (.slice n.wh.a n.wh.n n.wh.c) ∧ w.cell? ⟨B, 18, none⟩ = some (.slice n.ws.a n.ws.n n.ws.c) ∧ w.cell? ⟨B, 19, none⟩ = some (.int .i64 n.ak) ∧ w.cell? ⟨B, 20, none⟩ = some (.slice n.vt.a n.vt.n n.vt.c) ∧ w.cell? ⟨B, 21, none⟩ = some (.int .i64 n.wa) := by
  unfold NdBox NV.cells at h
  simp [World.cell?, h]
/-- what of a node counts, in memory. -/
structure Node (w : World) (n : NV) (d : Rt.Nd) (ps : List Lp) : Prop where
  id : n.id = d.id
  ms : n.ms = d.ms
  idr : -9223372036854775808 ≤ n.id ∧ n.id ≤ 9223372036854775807
  msr : -9223372036854775808 ≤ n.ms ∧ n.ms ≤ 9223372036854775807
  cln : n.cl.n = d.cl.length
  cl : Cls w n.cl.a n.cl.c d.cl
  dbn : n.db.n = ps.length
  db : Prs w n.db.a n.db.c ps
  has : d.has = fun k => (rawL ps k).isSome
  mvn : n.mv.n = d.mv.length
  mv : Mvs w n.mv.a n.mv.c d.mv
theorem Node.later {w w' : World} {n : NV} {d : Rt.Nd} {ps : List Lp} (h : Node w n d ps) (hb : Below w.heap.size w w') : Node w' n d ps :=
  { h with cl := h.cl.later hb, db := h.db.later hb, mv := h.mv.later hb }
end Go.Proofs.YtahmddopbmjepaaDoor
