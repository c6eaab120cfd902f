/- Appends of bytes, whatever they are; the facts of a law's reply. -/
import Derived.Test.YtcjbfgkmpoebgaaDoorRpPre
import Derived.Test.YtcjbfgkmpoebgaaDoorRpNest
import Derived.Test.YtcjbfgkmpoebgaaDoorRpSame
import Derived.Maps.AppendAt
namespace Go.Proofs.YtcjbfgkmpoebgaaDoor
open Go.RowKit Go.Shelf
attribute [local go_sem] Oper.semAt_some
set_option linter.unusedVariables false
set_option linter.unusedSimpArgs false

/-- append(b, x...) of bytes, whatever they are. -/
theorem run_append_bt {base : Nat} {bs xs : List UInt8} {v : Value} {W : World} {a : Option Addr} {c : Nat} (h : Buf base bs v W) (hb : Bt (fun _ => True) W a c xs) (hn : a = none → c = 0) (hl : bs.length ≤ 1000000) (hx : xs.length ≤ 1000000) (hbase : base ≤ W.heap.size) (ty : TypeId) :
    ∃ v' W', (Builtin.append_ #[28, 28] ty #[v, .slice a xs.length c]).run Tryd.prog W = .ok v' W' ∧ Buf base (bs ++ xs) v' W' ∧ Below base W W' := by
  obtain ⟨i5, hi5, hi5z, hi5s, hi5b⟩ := info_parts info5
  cases a with
  | none =>
    obtain rfl := hn rfl
    have hx0 : xs = [] := List.eq_nil_of_length_eq_zero (by have := hb.1; omega)
    subst hx0
    rw [List.append_nil]
    exact ⟨v, W, run_append_owned_none W base _ ty _ i5 1 Tryd.underlying28 hi5 v _ _ h, h, Below.refl _ _⟩
  | some ad =>
    have hnews : ∀ (j : Nat) (u : Value), (Lib.byteCells xs)[j]? = some u → W.cell? (ad.add j) = some u := by
      intro j u hj
      have hjl : j < xs.length := by
        have := (List.getElem?_eq_some_iff.1 hj).1
        rwa [Lib.byteCells_length] at this
      rcases hb.2.2 with rfl | ⟨b, off, ha, -, -, hc⟩
      · simp at hjl
      · obtain rfl := Option.some.inj ha
        have e : (Addr.add ⟨b, off, none⟩ j) = ⟨b, off + j, none⟩ := by unfold Addr.add; split <;> simp_all
        rw [e, hc j hjl, ← hj]
        simp [Lib.byteCells, List.getD, hjl]
    have hone : ∀ u ∈ Lib.byteCells xs, u.oneCell' = true := by
      intro u hu
      unfold Lib.byteCells at hu
      obtain ⟨b, _, rfl⟩ := List.mem_map.1 hu
      rfl
    obtain ⟨v', W', hr, ho, hg, -, -⟩ := run_append_own_at (P := Tryd.prog) W base 28 ty 5 i5 (.int .u8 0) 1 1 Tryd.underlying28 hi5 hi5z hi5s hi5b rfl (by decide) v bs.length (Lib.byteCells bs) h ad xs.length c (Lib.byteCells xs) (by simp [Lib.byteCells]) hnews hone (by unfold maxLen; omega) (by omega) hbase
    refine ⟨v', W', hr, ?_, (Keeps.of_grown (S := fun k => k < base) hg fun r e hlt => by have := (h.lt r e).1; omega).below hbase fun k hk => hk⟩
    unfold Buf
    rw [List.length_append]
    have e : Lib.byteCells (bs ++ xs) = Lib.byteCells bs ++ Lib.byteCells xs := by simp [Lib.byteCells]
    rw [e]
    exact ho

theorem wpList_append_bt {ops : Array Oper} {rest : List Oper} {o : Oper} {a : Act} {Q : Exit → Act → World → Prop} (hgd : o.guard = none) (s x : Operand)
    (ho : o.op = .call { callee := .builtin .append, args := #[s, x], argTypes := #[28, 28] })
    {base : Nat} {W : World} {v : Value} {bs xs : List UInt8} {ax : Option Addr} {c : Nat} (hs : a.eval s = v) (h : Buf base bs v W) (hx : a.eval x = .slice ax xs.length c) (hb : Bt (fun _ => True) W ax c xs) (hn : ax = none → c = 0)
    (hl : bs.length ≤ 1000000) (hxl : xs.length ≤ 1000000) (hbase : base ≤ W.heap.size)
    (hK : ∀ v' W', Buf base (bs ++ xs) v' W' → Below base W W' → wpList Tryd.prog ops Q rest (a.put o.dst v') W') : wpList Tryd.prog ops Q (o :: rest) a W :=
  wpList_plain hgd fun K hk => by
    obtain ⟨v', W', hr, h2, h3⟩ := run_append_bt h hb hn hl hxl hbase o.type
    unfold Oper.wp execOp
    simp only [ho, resolve, invoke, builtin, Sem.run_bind, Sem.run_pure, Result.andThen_ok, List.map_toArray, List.map_cons, List.map_nil, hs, hx, hr]
    exact hk _ _ (hK v' W' h2 h3)

theorem Bt.tt {S : Nat → Prop} {W : World} {a : Option Addr} {c : Nat} {xs : List UInt8} (h : Bt S W a c xs) : Bt (fun _ => True) W a c xs := ⟨h.1, h.2.1, h.2.2.imp id fun ⟨b, off, h1, _, h2, h3⟩ => ⟨b, off, h1, trivial, h2, h3⟩⟩
theorem Bt.lt {W : World} {a : Option Addr} {c : Nat} {xs : List UInt8} (h : Bt (fun _ => True) W a c xs) : Bt (fun i => i < W.heap.size) W a c xs := ⟨h.1, h.2.1, h.2.2.imp id fun ⟨b, off, h1, _, h2, h3⟩ => ⟨b, off, h1, h2, h2, h3⟩⟩
/-- an empty literal. -/
theorem buf_empty (w : World) (B : Nat) (h : B ≤ w.heap.size) : Buf B [] (.slice (some ⟨w.heap.size, 0, none⟩) 0 0) (w.alloc (.cells #[] 5)) :=
  ⟨rfl, .inr ⟨w.heap.size, 0, #[], rfl, h, World.alloc_heap_new w _, Nat.le_refl _, by decide, by simp, by simp [Lib.byteCells]⟩⟩

/-- the bytes of a law's reply, its facts. -/
theorem back_facts {s : List UInt8} (hs : s.length ≤ 100) (ns : List UInt8) : ∃ R, Rp.mkF ns.length ns s = R ∧ Rp.mayB R = true ∧ (∀ p ∈ Rp.heads 0 R, Rp.NumOk p.1 ∧ CAQ p.1) ∧ (Rp.heads 0 R).length ≤ 65 ∧ (Rp.enc R).length ≤ 13000 ∧ 1 ≤ (Rp.enc R).length := by
  have h := Rp.mk_top hs ns.length ns
  have hm : Rp.mayB (Rp.mkF ns.length ns s) = true := List.all_eq_true.2 fun p hp => (h.2 p hp).1
  refine ⟨_, rfl, hm, fun p hp => ⟨(h.2 p hp).2.1, (h.2 p hp).2.2.2⟩, h.1, Rp.enc_short (n := 65) hm (fun p hp => ⟨(h.2 p hp).2.1, (h.2 p hp).2.2.1⟩) h.1, ?_⟩
  have hg := Rp.get_put hm (fun p hp => (h.2 p hp).2.1) []
  rcases Nat.eq_zero_or_pos (Rp.enc (Rp.mkF ns.length ns s)).length with h0 | h0
  · rw [List.eq_nil_of_length_eq_zero h0] at hg
    cases hg
  · exact h0

end Go.Proofs.YtcjbfgkmpoebgaaDoor
