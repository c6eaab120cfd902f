/- The contracts of resp.withNumber and resp.withOwn. -/
import Derived.Test.YtcjbfgkmpoebgaaDoorRpEnv
import Derived.Deep.AppendLies
import Derived.Deep.RegionHeld3
import Derived.Lib.Strings
import Derived.Lib.Slices
import Derived.Lib.Walk
import Derived.Lib.Builder
import Derived.Lib.AppendStr
import Derived.Maps.AppendAt
namespace Go.Proofs.YtcjbfgkmpoebgaaDoor
open Go.RowKit Go.Shelf

theorem digs_dec : ∀ u : Nat, Dig.digs u = Lib.decDigits u := by
  intro u
  induction u using Nat.strongRecOn with
  | ind u ih =>
    rw [Dig.digs, Lib.decDigits]
    by_cases h : u < 10
    · rw [if_pos h, dif_pos h]
    · rw [if_neg h, dif_neg h, ih _ (by omega)]

theorem itoa_dec (n : Int) : Lib.itoa n = Dig.dec n := by
  unfold Lib.itoa Dig.dec
  by_cases h : n < 0
  · rw [if_pos h, if_pos h, digs_dec, show n.natAbs = (-n).toNat by omega]
  · rw [if_neg h, if_neg h, digs_dec]

theorem dec_len20 {n : Int} (h0 : -9223372036854775808 ≤ n) (h1 : n ≤ 9223372036854775807) : (Dig.dec n).length ≤ 20 := by
  unfold Dig.dec
  split
  · have := Dig.digs_len20 (u := (-n).toNat) (by omega)
    simp; omega
  · have := Dig.digs_len20 (u := n.toNat) (by omega)
    omega

theorem info5 : (Tryd.prog.info? 5).map (fun i => (i.zero, i.size, i.bytes)) = some (some (.int .u8 0), 1, 1) := by kernel_rfl

/-- a row of the call's own that holds these bytes. -/
def Buf (base : Nat) (bs : List UInt8) (v : Value) (W : World) : Prop := W.ownsRow base 5 1 v bs.length (Lib.byteCells bs)

/-- what is told behind an addition to such a row. -/
def BOut (base : Nat) (bs : List UInt8) (W : World) (e : Ending) (W' : World) : Prop :=
  ∃ v, e = .returned v ∧ Buf base bs v W' ∧ Below base W W' ∧ Lib.OthersKept 5 none W W'

set_option maxRecDepth 100000 in
theorem withNumber_any (base : Nat) (bs : List UInt8) (v : Value) (n : Int) (W : World) (h : Buf base bs v W) (hb : base ≤ W.heap.size) (h8 : 8 ≤ base) (hl : bs.length ≤ 100000000000000) (h0 : -9223372036854775808 ≤ n) (h1 : n ≤ 9223372036854775807) (henv : Env W) :
    Calls Tryd.prog 37 #[v, .int .i64 n] W (BOut base (bs ++ Dig.dec n) W) := by
  have hc := Tryd.strconv_AppendInt_10 base bs.length n h0 h1 v _ W h hb (by omega) (fun W' hW => tabIs_kept henv.tab (hW.block _ (by omega)))
  rw [itoa_dec] at hc
  go_enter Tryd.func37, Tryd.ntmps37
  go_wp2_with (go_at_call 47; refine hc.mono ?_; rintro e W1 ⟨v', rfl, hown, hbl, hok⟩; have H1 := Lib.hid (And.intro hown (And.intro hbl hok)); clear hown hbl hok hc)
  go_ret
  refine ⟨_, rfl, ?_, H1.out.2.1, H1.out.2.2⟩
  unfold Buf
  rw [List.length_append]
  simpa [Lib.byteCells] using H1.out.1

/-- an append of a string's bytes. -/
theorem run_append_str (w : World) (base t u ty e : Nat) (i : TypeInfo) (ht : Tryd.prog.underlying t = some (.slice e)) (hu : Tryd.prog.underlying u = some .string) (hi : Tryd.prog.info? e = some i) (hz : i.zero = some (.int .u8 0))
    (hsize : i.size = 1) (hby : i.bytes = 1) (v : Value) (n : Nat) (xs : List Value) (hown : w.ownsRow base e 1 v n xs) (s : ByteArray) (h63 : n + s.size ≤ maxLen) (hbytes : n + s.size ≤ 140737488355328) (hbase : base ≤ w.heap.size) :
    ∃ v' w', (Builtin.append_ #[t, u] ty #[v, .string s]).run Tryd.prog w = .ok v' w' ∧ w'.ownsRow base e 1 v' (n + s.size) (xs ++ Lib.strCells s) ∧ w.grownBy w' v.ownBlock := by
  obtain ⟨v', w', hr, h1, h2, _⟩ := Lib.run_append_own_string (P := Tryd.prog) w base t u ty e i ht hu hi hz hsize hby v n xs hown s h63 hbytes hbase
  exact ⟨v', w', hr, h1, h2⟩

theorem wp_append_str {o : Oper} {a : Act} {w : World} {K : Act → World → Prop} {Q : Exit → Act → World → Prop} (sl x : Operand) (t u : TypeId)
    (ho : o.op = .call { callee := .builtin .append, args := #[sl, x], argTypes := #[t, u] })
    (base : Nat) (e : TypeId) (i : TypeInfo) (ht : Tryd.prog.underlying t = some (.slice e)) (hu : Tryd.prog.underlying u = some .string) (hi : Tryd.prog.info? e = some i) (hz : i.zero = some (.int .u8 0))
    (hsize : i.size = 1) (hby : i.bytes = 1) (v : Value) (n : Nat) (xs : List Value) (hs : a.eval sl = v) (hown : w.ownsRow base e 1 v n xs) (s : ByteArray) (hx : a.eval x = .string s)
    (h63 : n + s.size ≤ maxLen) (hbytes : n + s.size ≤ 140737488355328) (hbase : base ≤ w.heap.size)
    (h : ∀ v' w', w'.ownsRow base e 1 v' (n + s.size) (xs ++ Lib.strCells s) → w.grownBy w' v.ownBlock → K (a.put o.dst v') w') : Oper.wp Tryd.prog o a w K Q := by
  obtain ⟨v', w', hr, h2, h3⟩ := run_append_str w base t u o.type e i ht hu hi hz hsize hby v n xs hown s h63 hbytes hbase
  unfold Oper.wp execOp
  simp only [ho, resolve, invoke, builtin, Sem.run_bind, Sem.run_pure, Result.andThen_ok, List.map_toArray, List.map_cons, List.map_nil, hs, hx, hr]
  exact h v' w' h2 h3

theorem step_append_str {ops : Array Oper} {o : Oper} {a : Act} {w : World} {K : Act → World → Prop} {Q : Exit → Act → World → Prop} {E : Prop} (hgd : o.guard = none) (sl x : Operand) (t u : TypeId)
    (ho : o.op = .call { callee := .builtin .append, args := #[sl, x], argTypes := #[t, u] })
    (base : Nat) (e : TypeId) (i : TypeInfo) (ht : Tryd.prog.underlying t = some (.slice e)) (hu : Tryd.prog.underlying u = some .string) (hi : Tryd.prog.info? e = some i) (hz : i.zero = some (.int .u8 0))
    (hsize : i.size = 1) (hby : i.bytes = 1) (v : Value) (n : Nat) (xs : List Value) (hs : a.eval sl = v) (hown : w.ownsRow base e 1 v n xs) (s : ByteArray) (hx : a.eval x = .string s)
    (h63 : n + s.size ≤ maxLen) (hbytes : n + s.size ≤ 140737488355328) (hbase : base ≤ w.heap.size)
    (h : ∀ v' w', w'.ownsRow base e 1 v' (n + s.size) (xs ++ Lib.strCells s) → w.grownBy w' v.ownBlock → K (a.put o.dst v') w') :
    if Region.wanted o (yielded ops a.tmps) = true then Oper.wp Tryd.prog o a w K Q else E := by
  have hw : Region.wanted o (yielded ops a.tmps) = true := by simp [Region.wanted, hgd]
  rw [if_pos hw]
  exact wp_append_str sl x t u ho base e i ht hu hi hz hsize hby v n xs hs hown s hx h63 hbytes hbase h

theorem wpList_append_str {w : World} {ops : Array Oper} {rest : List Oper} {o : Oper} {a : Act} {Q : Exit → Act → World → Prop} (hgd : o.guard = none) (sl x : Operand) (t u : TypeId)
    (ho : o.op = .call { callee := .builtin .append, args := #[sl, x], argTypes := #[t, u] })
    (base : Nat) (e : TypeId) (i : TypeInfo) (ht : Tryd.prog.underlying t = some (.slice e)) (hu : Tryd.prog.underlying u = some .string) (hi : Tryd.prog.info? e = some i) (hz : i.zero = some (.int .u8 0))
    (hsize : i.size = 1) (hby : i.bytes = 1) (v : Value) (n : Nat) (xs : List Value) (hs : a.eval sl = v) (hown : w.ownsRow base e 1 v n xs) (s : ByteArray) (hx : a.eval x = .string s)
    (h63 : n + s.size ≤ maxLen) (hbytes : n + s.size ≤ 140737488355328) (hbase : base ≤ w.heap.size)
    (h : ∀ v' w', w'.ownsRow base e 1 v' (n + s.size) (xs ++ Lib.strCells s) → w.grownBy w' v.ownBlock → wpList Tryd.prog ops Q rest (a.put o.dst v') w') : wpList Tryd.prog ops Q (o :: rest) a w :=
  wpList_plain hgd fun _ hK => wp_append_str sl x t u ho base e i ht hu hi hz hsize hby v n xs hs hown s hx h63 hbytes hbase fun v' w' h2 h3 => hK _ _ (h v' w' h2 h3)

/-- a row behind an addition. -/
structure Step (base : Nat) (bs : List UInt8) (v : Value) (W W' : World) : Prop where
  buf : Buf base bs v W'
  below : Below base W W'
  others : Lib.OthersKept 5 none W W'

theorem Step.start {base : Nat} {bs : List UInt8} {v : Value} {W : World} (h : Buf base bs v W) : Step base bs v W W := ⟨h, Below.refl _ _, Lib.OthersKept.refl _ _ _⟩
theorem Step.alloc {base : Nat} {bs : List UInt8} {v : Value} {W A : World} (h : Step base bs v W A) (hb : base ≤ W.heap.size) (o : Obj) : Step base bs v W (A.alloc o) :=
  ⟨h.buf.alloc _, h.below.alloc (by have := h.below.size; omega) _, h.others.alloc _⟩
theorem Step.drew {base : Nat} {bs : List UInt8} {v : Value} {W A : World} (h : Step base bs v W A) : Step base bs v W A.drew := ⟨h.buf, h.below.drew, h.others.drew⟩
theorem Step.grown {base : Nat} {bs cs : List UInt8} {v v' : Value} {W A C : World} {k : Nat} {ys : List Value} (h : Step base bs v W A) (hb : base ≤ W.heap.size) (ho : C.ownsRow base 5 1 v' (bs.length + k) (Lib.byteCells bs ++ ys)) (hg : A.grownBy C v.ownBlock) (hk : k = cs.length) (hy : ys = Lib.byteCells cs) : Step base (bs ++ cs) v' W C := by
  subst hk hy
  refine ⟨?_, h.below.grown hg (by have := h.below.size; omega) fun x hx => (h.buf.lt x hx).1, h.others.grown hg (Lib.ownsRow_kind h.buf)⟩
  unfold Buf
  rw [List.length_append]
  simpa [Lib.byteCells] using ho
/-- .. a cell of another kind's block stands. -/
theorem Step.cell {base : Nat} {bs : List UInt8} {v : Value} {W A : World} (h : Step base bs v W A) {b t : Nat} {cs : Array Value} {fr : Nat × Nat} (hb : W.heap[b]? = some (.cells cs t fr)) (ht : t ≠ 5) : A.heap[b]? = some (.cells cs t fr) :=
  h.others b _ hb (by simp) fun c fz e => by injection e with _ e; exact ht e

end Go.Proofs.YtcjbfgkmpoebgaaDoor
