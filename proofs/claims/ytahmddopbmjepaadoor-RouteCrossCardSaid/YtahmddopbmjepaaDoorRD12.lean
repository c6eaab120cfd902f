/- The contracts of the reference's functions on lists of spans. What is told of a []Claim in memory; the contract of claims.continues. Nodes and moves in memory (14.1). What becomes of a slot that moves, one key after the other. -/
import Derived.Test.YtahmddopbmjepaaDoorProg
import Derived.Test.YtahmddopbmjepaaDoorRD11
import Derived.WalkKit
import Derived.WalkLawsBesides
import Derived.WalkSpells
import Derived.WalkMore
import Derived.Lib.Hide
import Derived.Outline
import Derived.Below
import Derived.Deep.Cut
import Derived.Deep.CutRange
import Derived.Deep.QuietTactic
import Derived.BigQuiet
import Derived.Laws.StructEq
import Derived.Test.YtahmddopbmjepaaDoorRD02
import Derived.IntWalk
import Derived.Test.YtahmddopbmjepaaDoorRD07
import Derived.Test.YtahmddopbmjepaaDoorRD10
namespace Go.Proofs.YtahmddopbmjepaaDoor
open Go.RowKit

/-- What is told of a slice of spans: so many pairs of cells hold these spans; each number fits an int. -/
def Spans (w : World) (a : Option Addr) (cap : Nat) (l : List Sp.S) : Prop :=
  l.length ≤ cap ∧ l.length ≤ 9223372036854775807 ∧ (∀ s ∈ l, -9223372036854775808 ≤ s.1 ∧ s.1 ≤ 9223372036854775807 ∧ -9223372036854775808 ≤ s.2 ∧ s.2 ≤ 9223372036854775807) ∧
  (l = [] ∨ ∃ b off, a = some ⟨b, off, none⟩ ∧ b < w.heap.size ∧ ∀ k, k < l.length → w.cell? ⟨b, off + k * 2, none⟩ = some (.int .i64 (l.getD k (0, 0)).1) ∧ w.cell? ⟨b, off + k * 2 + 1, none⟩ = some (.int .i64 (l.getD k (0, 0)).2))

theorem Spans.later {w w' : World} {a : Option Addr} {cap : Nat} {l : List Sp.S} (h : Spans w a cap l) (hb : Below w.heap.size w w') : Spans w' a cap l := by
  obtain ⟨h0, h1, h2, h3⟩ := h
  refine ⟨h0, h1, h2, ?_⟩
  rcases h3 with h3 | ⟨b, off, ha, hlt, hc⟩
  · exact .inl h3
  · exact .inr ⟨b, off, ha, Nat.lt_of_lt_of_le hlt hb.size, fun k hk => by
      rw [hb.cell (p := ⟨b, off + k * 2, none⟩) hlt, hb.cell (p := ⟨b, off + k * 2 + 1, none⟩) hlt]; exact hc k hk⟩

set_option maxHeartbeats 1000000 in
theorem refHas_some (b off cap : Nat) (l : List Sp.S) (n : Int) (w : World) (hl : l.length ≤ 9223372036854775807) (hc : ∀ k, k < l.length → w.cell? ⟨b, off + k * 2, none⟩ = some (.int .i64 (l.getD k (0, 0)).1) ∧ w.cell? ⟨b, off + k * 2 + 1, none⟩ = some (.int .i64 (l.getD k (0, 0)).2)) (h0 : 0 ≤ n) (h1 : n < 16384) :
    Calls Tryd.prog 43 #[.slice (some ⟨b, off, none⟩) l.length cap, .int .i64 n] w fun e w' => e = .returned (.bool (Sp.hasB l n)) ∧ w = w' := by
  have HC := Lib.hid hc
  clear hc
  go_enter Tryd.func43, Tryd.ntmps43
  go_wp2
  go_loop [4, 5] (fun r i => ∃ k : Nat, k ≤ l.length ∧ r = .bool false ∧ i = .int .i64 k ∧ Hid (Sp.hasB (l.take k) n = false)) (fun _ i => l.length - (intOf i).toNat)
  case atStart => exact ⟨0, Nat.zero_le _, rfl, rfl, Lib.hid (by simp [Sp.hasB])⟩
  case round =>
    obtain ⟨k, hk, rfl, rfl, HK⟩ := hrel
    by_cases hlt : k < l.length
    · obtain ⟨c1, c2⟩ := HC.out k hlt
      generalize hs : l.getD k (0, 0) = s at c1 c2
      obtain ⟨x, y⟩ := s
      have HS := Lib.hid hs
      clear hs
      simp only at c1 c2
      go_wp2
      · have h2 : x ≤ n := by assumption
        have h3 : n ≤ y := by assumption
        have hv : Sp.hasB l n = true := Sp.hasB_of hlt (by rw [HS.out]; simp [Sp.inB]; omega)
        go_ret
        exact ⟨by rw [hv]; rfl, rfl⟩
      · have h3 : y < n := by assumption
        have hv : Sp.hasB (l.take (k + 1)) n = false := by
          rw [Sp.hasB_take_succ hlt, HK.out, HS.out]; simp [Sp.inB]; omega
        go_round
        case rel => exact ⟨k + 1, by omega, rfl, by go_num, Lib.hid hv⟩
        case measure => simp [intOf]; omega
      · have h3 : ¬ x ≤ n := by assumption
        have hv : Sp.hasB (l.take (k + 1)) n = false := by
          rw [Sp.hasB_take_succ hlt, HK.out, HS.out]; simp [Sp.inB]; omega
        go_round
        case rel => exact ⟨k + 1, by omega, rfl, by go_num, Lib.hid hv⟩
        case measure => simp [intOf]; omega
    · obtain rfl : k = l.length := by omega
      have hv : Sp.hasB l n = false := by
        have := HK.out
        rw [List.take_length] at this
        exact this
      go_wp2
      go_ret
      exact ⟨rfl, rfl⟩

set_option maxHeartbeats 1000000 in
theorem refHas_out (a : Option Addr) (len cap : Nat) (n : Int) (w : World) (hl : len ≤ 9223372036854775807) (hn : n < 0 ∨ 16384 ≤ n) :
    Calls Tryd.prog 43 #[.slice a len cap, .int .i64 n] w fun e w' => e = .returned (.bool false) ∧ w = w' := by
  by_cases h0 : n < 0
  · clear hn
    go_enter Tryd.func43, Tryd.ntmps43
    go_wp2
    go_loop [4, 5] (fun r i => ∃ k : Nat, k ≤ len ∧ r = .bool false ∧ i = .int .i64 k) (fun _ i => len - (intOf i).toNat)
    case atStart => exact ⟨0, Nat.zero_le _, rfl, rfl⟩
    case round =>
      obtain ⟨k, hk, rfl, rfl⟩ := hrel
      by_cases hlt : k < len
      · go_wp2
        go_round
        case rel => exact ⟨k + 1, by omega, rfl, by go_num⟩
        case measure => simp [intOf]; omega
      · go_wp2
        go_ret
        exact ⟨rfl, rfl⟩
  · have h1 : ¬ n < 16384 := by omega
    clear hn
    go_enter Tryd.func43, Tryd.ntmps43
    go_wp2
    go_loop [4, 5] (fun r i => ∃ k : Nat, k ≤ len ∧ r = .bool false ∧ i = .int .i64 k) (fun _ i => len - (intOf i).toNat)
    case atStart => exact ⟨0, Nat.zero_le _, rfl, rfl⟩
    case round =>
      obtain ⟨k, hk, rfl, rfl⟩ := hrel
      by_cases hlt : k < len
      · go_wp2
        go_round
        case rel => exact ⟨k + 1, by omega, rfl, by go_num⟩
        case measure => simp [intOf]; omega
      · go_wp2
        go_ret
        exact ⟨rfl, rfl⟩

set_option maxHeartbeats 400000 in
theorem refHas_nil (a : Option Addr) (cap : Nat) (n : Int) (w : World) :
    Calls Tryd.prog 43 #[.slice a 0 cap, .int .i64 n] w fun e w' => e = .returned (.bool false) ∧ w = w' := by
  go_enter Tryd.func43, Tryd.ntmps43
  go_wp2
  go_loop [4, 5] (fun r i => r = .bool false ∧ i = .int .i64 0) (fun _ _ => 0)
  case atStart => exact ⟨rfl, rfl⟩
  case round =>
    obtain ⟨rfl, rfl⟩ := hrel
    go_wp2
    go_ret
    exact ⟨rfl, rfl⟩

theorem refHas_any (a : Option Addr) (cap : Nat) (l : List Sp.S) (n : Int) (w : World) (h : Spans w a cap l) :
    Calls Tryd.prog 43 #[.slice a l.length cap, .int .i64 n] w fun e w' => e = .returned (.bool (Sp.hasB l n)) ∧ w = w' := by
  obtain ⟨h0, h1, _, h3⟩ := h
  by_cases hn : 0 ≤ n ∧ n < 16384
  · rcases h3 with rfl | ⟨b, off, rfl, _, hc⟩
    · exact refHas_nil a cap n w
    · exact refHas_some b off cap l n w (by omega) hc hn.1 hn.2
  · have ho : n < 0 ∨ 16384 ≤ n := by omega
    rw [Sp.hasB_out ho]
    exact refHas_out a l.length cap n w (by omega) ho

theorem span_neq (x y x2 y2 : Int) (w : World) :
    (binOp .neq 58 (.agg #[.int .i64 x, .int .i64 y]) (.agg #[.int .i64 x2, .int .i64 y2])).run Tryd.prog w = .ok (.bool (!(x == x2 && y == y2))) w := by
  have u3 := Tryd.underlying3
  have a3 := Tryd.isAgg3
  have z3 := Tryd.sizeOf3
  have hS : Tryd.prog.underlying 58 = some (.struct (Tryd.prog.fieldsOf 58)) := by kernel_rfl
  have hp : Tryd.prog.stoodInHeld 58 = false := by kernel_rfl
  rw [run_neq_struct, show (10000 : Nat) = 9999 + 1 from rfl, run_equalIn_agg w 9999 58 _ _ hS hp]
  simp only [Program.fieldsOf, Tryd.underlying58]
  go_simp
  by_cases h1 : x = x2 <;> by_cases h2 : y = y2 <;> simp [h1, h2]

-- left out: refSame_some
-- left out: refSame_len
-- left out: refSame_nil
-- left out: sp_refSame
end Go.Proofs.YtahmddopbmjepaaDoor
namespace Go.Proofs.YtahmddopbmjepaaDoor
open Go.RowKit

namespace Ow
/-- each number fits an int. -/
def FitC (c : C) : Prop := -9223372036854775808 ≤ c.f ∧ c.f ≤ 9223372036854775807 ∧ -9223372036854775808 ≤ c.t ∧ c.t ≤ 9223372036854775807 ∧ -9223372036854775808 ≤ c.n ∧ c.n ≤ 9223372036854775807 ∧ -9223372036854775808 ≤ c.e ∧ c.e ≤ 9223372036854775807

theorem fit_ok {c : C} (h : okC c) : FitC c := by
  unfold okC at h; unfold FitC; omega

theorem fit_all {l : List C} (h : VL l) : ∀ c ∈ l, FitC c := fun c hc => fit_ok (h.all c hc)
end Ow

/-- the four cells of a claim. -/
def C4 (w : World) (b o : Nat) (c : Ow.C) : Prop :=
  w.cell? ⟨b, o, none⟩ = some (.int .i64 c.f) ∧ w.cell? ⟨b, o + 1, none⟩ = some (.int .i64 c.t) ∧ w.cell? ⟨b, o + 2, none⟩ = some (.int .i64 c.n) ∧ w.cell? ⟨b, o + 3, none⟩ = some (.int .i64 c.e)

/-- What is told of a slice of claims: so many times four cells hold these claims. -/
def Cls (w : World) (a : Option Addr) (cap : Nat) (l : List Ow.C) : Prop :=
  l.length ≤ cap ∧ cap ≤ 9223372036854775807 ∧ (∀ c ∈ l, Ow.FitC c) ∧
  (l = [] ∨ ∃ b off, a = some ⟨b, off, none⟩ ∧ b < w.heap.size ∧ ∀ k, k < l.length → C4 w b (off + k * 4) (l.getD k Ow.z))

theorem C4.later {w w' : World} {b o : Nat} {c : Ow.C} (h : C4 w b o c) (hlt : b < w.heap.size) (hb : Below w.heap.size w w') : C4 w' b o c := by
  obtain ⟨h1, h2, h3, h4⟩ := h
  exact ⟨(hb.cell (p := ⟨b, o, none⟩) hlt).trans h1, (hb.cell (p := ⟨b, o + 1, none⟩) hlt).trans h2, (hb.cell (p := ⟨b, o + 2, none⟩) hlt).trans h3, (hb.cell (p := ⟨b, o + 3, none⟩) hlt).trans h4⟩

theorem Cls.later {w w' : World} {a : Option Addr} {cap : Nat} {l : List Ow.C} (h : Cls w a cap l) (hb : Below w.heap.size w w') : Cls w' a cap l := by
  obtain ⟨h0, h1, h2, h3⟩ := h
  refine ⟨h0, h1, h2, ?_⟩
  rcases h3 with h3 | ⟨b, off, ha, hlt, hc⟩
  · exact .inl h3
  · exact .inr ⟨b, off, ha, Nat.lt_of_lt_of_le hlt hb.size, fun k hk => (hc k hk).later hlt hb⟩

theorem cls_nil (w : World) : Cls w none 0 [] := ⟨Nat.le_refl _, by omega, by simp, .inl rfl⟩

/-- the cells of a claim in a slice. -/
theorem Cls.cells {w : World} {a : Option Addr} {cap : Nat} {l : List Ow.C} (h : Cls w a cap l) {k : Nat} (hk : k < l.length) :
    ∃ b off, a = some ⟨b, off, none⟩ ∧ b < w.heap.size ∧ C4 w b (off + k * 4) (l.getD k Ow.z) := by
  obtain ⟨_, _, _, h3⟩ := h
  rcases h3 with rfl | ⟨b, off, ha, hb, hc⟩
  · simp at hk
  · exact ⟨b, off, ha, hb, hc k hk⟩

theorem Cls.fit {w : World} {a : Option Addr} {cap : Nat} {l : List Ow.C} (h : Cls w a cap l) {k : Nat} (hk : k < l.length) : Ow.FitC (l.getD k Ow.z) := by
  have e : l.getD k Ow.z = l[k] := by simp [List.getD, hk]
  rw [e]
  exact h.2.2.1 _ (List.getElem_mem hk)

-- left out: continues_any
end Go.Proofs.YtahmddopbmjepaaDoor
namespace Go.Proofs.YtahmddopbmjepaaDoor
open Go.RowKit Go.Shelf

namespace Rt
theorem at_key (ks : List Bs) (j : Nat) (h : j < ks.length) : ks.getD j [] ∈ ks := by rw [getD_eq h]; exact List.getElem_mem h
theorem key_at {ks : List Bs} {k : Bs} (h : k ∈ ks) : ∃ j, j < ks.length ∧ ks.getD j [] = k := by
  obtain ⟨j, hj, rfl⟩ := List.getElem_of_mem h
  exact ⟨j, hj, getD_eq hj⟩
theorem moving_early {has : Bs → Bool} {m : Mv} {ks : List Bs} {j : Nat} (hj : j < ks.length) (h : locked m (ks.getD j []) = true ∨ has (ks.getD j []) ≠ has (ks.getD 0 [])) : movingS has m ks = again := by
  unfold movingS
  have h0 := at_key ks 0 (by omega)
  have hj' := at_key ks j hj
  split
  · rfl
  · rename_i hl
    rcases h with h | h
    · exact (hl (List.any_eq_true.2 ⟨_, hj', h⟩)).elim
    · rw [if_neg, if_neg]
      · intro ha
        rw [List.all_eq_true] at ha
        have h1 := ha _ h0
        have h2 := ha _ hj'
        simp only [Bool.not_eq_true'] at h1 h2
        exact h (h2.trans h1.symm)
      · intro ha
        rw [List.all_eq_true] at ha
        exact h ((ha _ hj').trans (ha _ h0).symm)
theorem moving_same {has : Bs → Bool} {m : Mv} {ks : List Bs} (h0 : 0 < ks.length) (h : ∀ j, j < ks.length → locked m (ks.getD j []) = false ∧ has (ks.getD j []) = has (ks.getD 0 [])) :
    movingS has m ks = if has (ks.getD 0 []) then [] else redir ask m.s m.t := by
  unfold movingS
  rw [if_neg]
  · cases hh : has (ks.getD 0 []) with
    | true =>
      rw [if_pos]
      · rfl
      · rw [List.all_eq_true]
        intro k hk
        obtain ⟨j, hj, rfl⟩ := key_at hk
        rw [(h j hj).2, hh]
    | false =>
      rw [if_neg, if_pos]
      · rfl
      · rw [List.all_eq_true]
        intro k hk
        obtain ⟨j, hj, rfl⟩ := key_at hk
        rw [(h j hj).2, hh]; rfl
      · intro ha
        rw [List.all_eq_true] at ha
        have := ha _ (at_key ks 0 h0)
        rw [hh] at this
        cases this
  · intro ha
    obtain ⟨k, hk, hl⟩ := List.any_eq_true.1 ha
    obtain ⟨j, hj, rfl⟩ := key_at hk
    rw [(h j hj).1] at hl
    cases hl
theorem locked_iff {m : Mv} {k : Bs} : locked m k = true ↔ 0 < m.n ∧ k = m.k := by simp [locked]

def Mv.cs (m : Mv) : List Value := [.int .i64 m.s, .int .i64 m.t, .int .i64 m.n, .string ⟨m.k.toArray⟩]
def Mv.v (m : Mv) : Value := .agg #[.int .i64 m.s, .int .i64 m.t, .int .i64 m.n, .string ⟨m.k.toArray⟩]
/-- may its numbers be ints, its key a text? -/
def Mv.Ok (m : Mv) : Prop := (-9223372036854775808 ≤ m.s ∧ m.s ≤ 9223372036854775807) ∧ (-9223372036854775808 ≤ m.t ∧ m.t ≤ 9223372036854775807) ∧ (-9223372036854775808 ≤ m.n ∧ m.n ≤ 9223372036854775807) ∧ m.k.length ≤ 9223372036854775807
end Rt

/-- a slice of moves. -/
def Mvs (w : World) (a : Option Addr) (cap : Nat) (l : List Rt.Mv) : Prop := RowsIn 4 w a cap (l.map Rt.Mv.cs) ∧ ∀ m ∈ l, m.Ok
theorem Mvs.later {w w' : World} {a : Option Addr} {cap : Nat} {l : List Rt.Mv} (h : Mvs w a cap l) (hb : Below w.heap.size w w') : Mvs w' a cap l := ⟨h.1.later hb, h.2⟩
theorem mvs_nil (w : World) : Mvs w none 0 [] := ⟨RowsIn.nil 4 w, by simp⟩
theorem Mvs.len {w : World} {a : Option Addr} {cap : Nat} {l : List Rt.Mv} (h : Mvs w a cap l) : l.length ≤ cap ∧ cap ≤ 9223372036854775807 := ⟨by simpa using h.1.1, h.1.2.1⟩
def MAt (w : World) (b off : Nat) (m : Rt.Mv) : Prop :=
  w.cell? ⟨b, off, none⟩ = some (.int .i64 m.s) ∧ w.cell? ⟨b, off + 1, none⟩ = some (.int .i64 m.t) ∧ w.cell? ⟨b, off + 2, none⟩ = some (.int .i64 m.n) ∧ w.cell? ⟨b, off + 3, none⟩ = some (.string ⟨m.k.toArray⟩)
theorem Mvs.get {w : World} {a : Option Addr} {cap : Nat} {l : List Rt.Mv} (h : Mvs w a cap l) (h0 : 0 < l.length) :
    ∃ b off, a = some ⟨b, off, none⟩ ∧ b < w.heap.size ∧ ∀ k, k < l.length → MAt w b (off + k * 4) (l.getD k Rt.Mv.zero) := by
  obtain ⟨b, off, ha, hlt, hc⟩ := h.1.get (by simpa using h0)
  refine ⟨b, off, ha, hlt, fun k hk => ?_⟩
  have hk' : k < (l.map Rt.Mv.cs).length := by simpa using hk
  have e := map_getD Rt.Mv.cs l Rt.Mv.zero [] hk
  have f := fun j hj => (hc k hk' j hj).trans (congrArg (·[j]?) e)
  exact ⟨f 0 (by omega), f 1 (by omega), f 2 (by omega), f 3 (by omega)⟩
theorem Mvs.ok {w : World} {a : Option Addr} {cap : Nat} {l : List Rt.Mv} (h : Mvs w a cap l) {k : Nat} (hk : k < l.length) : (l.getD k Rt.Mv.zero).Ok := by
  rw [getD_eq hk]; exact h.2 _ (List.getElem_mem hk)

/-- a move in a block of its own. -/
def MvBox (w : World) (B : Nat) (s t n : Int) (k : List UInt8) : Prop := w.heap[B]? = some (.cells #[.int .i64 s, .int .i64 t, .int .i64 n, .string ⟨k.toArray⟩] 61 (0, 0))
theorem MvBox.new (w : World) (s t n : Int) (k : List UInt8) : MvBox (w.alloc (.cells #[.int .i64 s, .int .i64 t, .int .i64 n, .string ⟨k.toArray⟩] 61)) w.heap.size s t n k := World.alloc_heap_new w _
theorem MvBox.later {w w' : World} {B n0 : Nat} {s t n : Int} {k : List UInt8} (h : MvBox w B s t n k) (hb : Below n0 w w') (hB : B < n0) : MvBox w' B s t n k := (hb.block B hB).trans h
theorem MvBox.at {w : World} {B : Nat} {s t n : Int} {k : List UInt8} (h : MvBox w B s t n k) : w.cell? ⟨B, 0, none⟩ = some (.int .i64 s) ∧ w.cell? ⟨B, 1, none⟩ = some (.int .i64 t) ∧ w.cell? ⟨B, 2, none⟩ = some (.int .i64 n) ∧ w.cell? ⟨B, 3, none⟩ = some (.string ⟨k.toArray⟩) := by
  unfold MvBox at h
  simp [World.cell?, h]

/-- a slice's three parts. -/
structure SV where
  a : Option Addr
  n : Nat
  c : Nat
/-- a node's parts: those that count here, and the others. -/
structure NV where
  ct : Int
  id : Int
  ms : Int
  ep : Int
  vo : Int
  cl : SV
  db : SV
  mv : SV
  la : Int
  se : SV
  f0 : Int
  f1 : Int
  f2 : Int
  fb : SV
  f4 : Int
  f5 : Int
  f6 : Int
  wh : SV
  ws : SV
  ak : Int
  vt : SV
  wa : Int
def NV.cells (n : NV) : Array Value := #[.int .i64 n.ct, .int .i64 n.id, .int .i64 n.ms, .int .i64 n.ep, .int .i64 n.vo, .slice n.cl.a n.cl.n n.cl.c, .slice n.db.a n.db.n n.db.c, .slice n.mv.a n.mv.n n.mv.c, .int .i64 n.la, .slice n.se.a n.se.n n.se.c,
  .int .i64 n.f0, .int .i64 n.f1, .int .i64 n.f2, .slice n.fb.a n.fb.n n.fb.c, .int .i64 n.f4, .int .i64 n.f5, .int .i64 n.f6, .slice n.wh.a n.wh.n n.wh.c, .slice n.ws.a n.ws.n n.ws.c, .int .i64 n.ak, .slice n.vt.a n.vt.n n.vt.c, .int .i64 n.wa]
def NdBox (w : World) (B : Nat) (n : NV) : Prop := w.heap[B]? = some (.cells n.cells 36 (0, 0))
theorem NdBox.new (w : World) (n : NV) : NdBox (w.alloc (.cells n.cells 36)) w.heap.size n := World.alloc_heap_new w _
theorem NdBox.later {w w' : World} {B n0 : Nat} {n : NV} (h : NdBox w B n) (hb : Below n0 w w') (hB : B < n0) : NdBox w' B n := (hb.block B hB).trans h
theorem NdBox.few {w : World} {B : Nat} {n : NV} (h : NdBox w B n) : w.cell? ⟨B, 1, none⟩ = some (.int .i64 n.id) ∧ w.cell? ⟨B, 2, none⟩ = some (.int .i64 n.ms) ∧ w.cell? ⟨B, 5, none⟩ = some (.slice n.cl.a n.cl.n n.cl.c) ∧ w.cell? ⟨B, 6, none⟩ = some (.slice n.db.a n.db.n n.db.c) ∧ w.cell? ⟨B, 7, none⟩ = some (.slice n.mv.a n.mv.n n.mv.c) := by
  unfold NdBox NV.cells at h
  simp [World.cell?, h]
theorem NdBox.all {w : World} {B : Nat} {n : NV} (h : NdBox w B n) : w.cell? ⟨B, 0, none⟩ = some (.int .i64 n.ct) ∧ w.cell? ⟨B, 1, none⟩ = some (.int .i64 n.id) ∧ w.cell? ⟨B, 2, none⟩ = some (.int .i64 n.ms) ∧ w.cell? ⟨B, 3, none⟩ = some (.int .i64 n.ep) ∧ w.cell? ⟨B, 4, none⟩ = some (.int .i64 n.vo) ∧ w.cell? ⟨B, 5, none⟩ = some (.slice n.cl.a n.cl.n n.cl.c) ∧ w.cell? ⟨B, 6, none⟩ = some (.slice n.db.a n.db.n n.db.c) ∧ w.cell? ⟨B, 7, none⟩ = some (.slice n.mv.a n.mv.n n.mv.c) ∧ w.cell? ⟨B, 8, none⟩ = some (.int .i64 n.la) ∧ w.cell? ⟨B, 9, none⟩ = some (.slice n.se.a n.se.n n.se.c) ∧ w.cell? ⟨B, 10, none⟩ = some (.int .i64 n.f0) ∧ w.cell? ⟨B, 11, none⟩ = some (.int .i64 n.f1) ∧ w.cell? ⟨B, 12, none⟩ = some (.int .i64 n.f2) ∧ w.cell? ⟨B, 13, none⟩ = some (.slice n.fb.a n.fb.n n.fb.c) ∧ w.cell? ⟨B, 14, none⟩ = some (.int .i64 n.f4) ∧ w.cell? ⟨B, 15, none⟩ = some (.int .i64 n.f5) ∧ w.cell? ⟨B, 16, none⟩ = some (.int .i64 n.f6) ∧ w.cell? ⟨B, 17, none⟩ = some (.slice n.wh.a n.wh.n n.wh.c) ∧ w.cell? ⟨B, 18, none⟩ = some (.slice n.ws.a n.ws.n n.ws.c) ∧ w.cell? ⟨B, 19, none⟩ = some (.int .i64 n.ak) ∧ w.cell? ⟨B, 20, none⟩ = some (.slice n.vt.a n.vt.n n.vt.c) ∧ w.cell? ⟨B, 21, none⟩ = some (.int .i64 n.wa) := by
  unfold NdBox NV.cells at h
  simp [World.cell?, h]
/-- what of a node counts, in memory. -/
structure Node (w : World) (n : NV) (d : Rt.Nd) (ps : List Lp) : Prop where
  id : n.id = d.id
  ms : n.ms = d.ms
  idr : -9223372036854775808 ≤ n.id ∧ n.id ≤ 9223372036854775807
  msr : -9223372036854775808 ≤ n.ms ∧ n.ms ≤ 9223372036854775807
  cln : n.cl.n = d.cl.length
  cl : Cls w n.cl.a n.cl.c d.cl
  dbn : n.db.n = ps.length
  db : Prs w n.db.a n.db.c ps
  has : d.has = fun k => (rawL ps k).isSome
  mvn : n.mv.n = d.mv.length
  mv : Mvs w n.mv.a n.mv.c d.mv
theorem Node.later {w w' : World} {n : NV} {d : Rt.Nd} {ps : List Lp} (h : Node w n d ps) (hb : Below w.heap.size w w') : Node w' n d ps :=
  { h with cl := h.cl.later hb, db := h.db.later hb, mv := h.mv.later hb }
end Go.Proofs.YtahmddopbmjepaaDoor
