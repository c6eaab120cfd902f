/- Rows of texts: such an argument opened; a row of rows of the call's own. -/
import Derived.Test.YtekdmnecjgpokaaStLit
import Derived.Test.YtekdmnecjgpokaaLsOpen
import Derived.Deep.Slices
import Derived.Maps.AppendAt
namespace Go.Proofs.Ytekdmnecjgpokaa
open Go.RowKit Go.Shelf Go.Deep Go.ChangeShapes Go.WideShapes
set_option linter.unusedVariables false
set_option linter.unusedSimpArgs false

/-- a slice of slices of texts that came in. -/
theorem open_rows {H : Type} {enc : TypeId × Value → H} {W : World} {base : Nat} {held : Bool} {fuel : Nat} {cs : List Value} {x : DataW H × List MemPlace}
    (h : DataW.trod enc Try.prog W base (fun _ => true) held fuel 22 cs = some x) : ∃ (a : Option Addr) (cap : Nat) (L : List (List St.Bs)), cs = [.slice a L.length cap] ∧ Wss W a cap L := by
  have hM : maxLen = 9223372036854775807 := by decide
  rcases open_slice1 Try.underlying22 (by kernel_rfl) h with ⟨h0, -⟩ | ⟨a, len, cap, m, n, V, D, Pl, rfl, hb, hl, hm, hmm, rfl, hx⟩
  · exact ⟨none, 0, [], h0, ⟨Nat.le_refl _, by decide, .inl rfl⟩⟩
  · simp only [if_true] at hmm
    have hmm' := hmm.symm
    subst hmm'
    have each : ∀ r, r < len → ∃ y : Option Addr × Nat × List St.Bs, V r = .slice y.1 y.2.2.length y.2.1 ∧ Wds W y.1 y.2.1 y.2.2 ∧ (y.1 = none → y.2.1 = 0) := by
      intro r hr
      rcases open_strings Try.underlying25 Try.underlying9 (by kernel_rfl) (hx r (by omega)).2 with ⟨hcs, -⟩ | ⟨a', len', cap', ss, hcs, -, hl', hm', hz, -, hcell, hws⟩
      · exact ⟨(none, 0, []), by simpa using hcs, wds_nil W, fun _ => rfl⟩
      · simp only [if_true] at hz
        obtain ⟨ts, t1, t2, t3⟩ := strs_of W a' len' cap' ss hl' hm' (by omega) hcell hws
        refine ⟨(some a', cap', ts.map fun s => s.data.toList), ?_, t3.words, fun h => by cases h⟩
        rw [List.length_map, ← t1]
        simpa using hcs
    obtain ⟨y, hy⟩ := choose_lt each
    refine ⟨some a, cap, (List.range len).map fun r => (y r).2.2, by simp, ⟨by simpa using hl, by omega, ?_⟩⟩
    by_cases h0 : len = 0
    · left; subst h0; rfl
    · right
      obtain ⟨b, off, spot⟩ := a
      have hc := (hx 0 (by omega)).1
      have hspot : spot = none := by simpa [Addr.add] using World.cell?_spot hc
      subst hspot
      refine ⟨b, off, rfl, by simpa [Addr.add] using World.block_lt_of_cell? W _ hc, fun k hk => ?_⟩
      simp only [List.length_map, List.length_range] at hk
      obtain ⟨e1, e2, e3⟩ := hy k hk
      have hck := (hx k (by omega)).1
      have ea : (Addr.add ⟨b, off, none⟩ k) = ⟨b, off + k, none⟩ := by unfold Addr.add; split <;> simp_all
      rw [ea, e1] at hck
      have eg : ((List.range len).map fun r => (y r).2.2).getD k [] = (y k).2.2 := by simp [List.getD, hk]
      rw [eg]
      exact ⟨(y k).1, (y k).2.1, hck, e2, e3⟩

theorem info25 : (Try.prog.info? 25).map (fun i => (i.zero, i.size, i.bytes)) = some (some (.slice none 0 0), 1, 24) := by kernel_rfl

/-- a row whose elements lie not in it. -/
def Apart (u : Value) (a : Option Addr) (W : World) : Prop := ∀ p, a = some p → p.block < W.heap.size ∧ u.ownBlock ≠ some p.block
/-- rows of texts in a row of the call's own. -/
def OfRow (w : World) (u : Value) (L : List (List St.Bs)) (W : World) : Prop :=
  ∃ cs : List Value, W.ownsRow w.heap.size 25 1 u L.length cs ∧ Below w.heap.size w W ∧ ∀ k, k < L.length → ∃ a c, cs[k]? = some (.slice a (L.getD k []).length c) ∧ VS W a c (L.getD k []) ∧ Apart u a W

theorem OfRow.none (w W : World) (hb : Below w.heap.size w W) : OfRow w (.slice none 0 0) [] W := ⟨[], World.ownsRow_nil _ _ _ _, hb, fun k hk => by simp at hk⟩
theorem OfRow.later {w W W' : World} {u : Value} {L : List (List St.Bs)} (h : OfRow w u L W) (hb : Below W.heap.size W W') : OfRow w u L W' := by
  obtain ⟨cs, h1, h2, h3⟩ := h
  refine ⟨cs, owns_kept (S := fun _ => True) h1 (Keeps.of_below hb fun _ h _ => h) fun _ _ => trivial, h2.trans (hb.mono h2.size), fun k hk => ?_⟩
  obtain ⟨a, c, q1, q2, q3⟩ := h3 k hk
  exact ⟨a, c, q1, q2.later hb, fun p hp => ⟨Nat.lt_of_lt_of_le (q3 p hp).1 hb.size, (q3 p hp).2⟩⟩
theorem OfRow.wss {w W : World} {u : Value} {L : List (List St.Bs)} (h : OfRow w u L W) : ∃ a c, u = .slice a L.length c ∧ Wss W a c L ∧ (L ≠ [] → ∃ g, a = some ⟨g, 0, Option.none⟩) := by
  obtain ⟨cs, h1, h2, h3⟩ := h
  obtain ⟨hlen, hcase⟩ := h1
  rcases hcase with ⟨rfl, hz⟩ | ⟨g, cap, cur, rfl, hgB, hgg, hnc, hcm, hcs, htk⟩
  · have hL : L = [] := List.eq_nil_of_length_eq_zero hz
    subst hL
    exact ⟨Option.none, 0, rfl, ⟨Nat.le_refl _, by decide, .inl rfl⟩, fun h => (h rfl).elim⟩
  · have hlt : g < W.heap.size := (Array.getElem?_eq_some_iff.1 hgg).1
    refine ⟨_, cap, rfl, ⟨hnc, by unfold maxLen at hcm; omega, .inr ⟨g, 0, rfl, hlt, fun k hk => ?_⟩⟩, fun _ => ⟨g, rfl⟩⟩
    obtain ⟨a, c, q1, q2, -⟩ := h3 k hk
    refine ⟨a, c, ?_, q2.1, q2.2⟩
    rw [Nat.zero_add, cell_of_row W g k cur 25 (0, 0) hgg, ← q1]
    have := congrArg (fun l : List Value => l[k]?) htk
    simp only [Nat.mul_one] at this
    rw [← this]
    simp [hk]

/-- append(of, l). -/
theorem run_append_of {w W : World} {u : Value} {L : List (List St.Bs)} {l : List St.Bs} {a : Option Addr} {c B : Nat} (h : OfRow w u L W) (hv : VS W a c l) (ha : Apart u a W) (hcell : W.cell? ⟨B, 0, none⟩ = some (.slice a l.length c)) (hl : L.length ≤ 1000) (ty : TypeId) :
    ∃ u' W', (Builtin.append_ #[22, 22] ty #[u, .slice (some ⟨B, 0, none⟩) 1 1]).run Try.prog W = .ok u' W' ∧ OfRow w u' (L ++ [l]) W' := by
  obtain ⟨iF, hiF, hiF0, hiF1, hiF2⟩ := info_parts info25
  obtain ⟨cs, h1, h2, h3⟩ := h
  have hcl : cs.length = L.length := by rw [h1.1, Nat.mul_one]
  obtain ⟨v', W', hr, ho, hgr, -, hat⟩ := run_append_own_at (P := Try.prog) W w.heap.size 22 ty 25 iF _ 1 24 Try.underlying22 hiF hiF0 hiF1 hiF2 rfl (by decide) u L.length cs h1 ⟨B, 0, none⟩ 1 1 [.slice a l.length c] rfl (fun j v hj => by
    match j, hj with
    | 0, hj =>
      simp at hj
      subst hj
      simpa [Addr.add] using hcell) (by simp [Value.oneCell']) (by unfold maxLen; omega) (by omega) h2.size
  have hk : Keeps (fun k => some k ≠ u.ownBlock) W W' := Keeps.of_grown hgr fun r e h => h e.symm
  have keepV : ∀ {a : Option Addr} {c : Nat} {m : List St.Bs}, VS W a c m → Apart u a W → VS W' a c m ∧ Apart v' a W' := fun {a c m} hv hap => by
    refine ⟨⟨hv.1.keep hk.size fun b off he hlt => hk.block b hlt fun e => (hap _ he).2 e.symm, hv.2⟩, fun p hp => ?_⟩
    obtain ⟨q1, q2⟩ := hap p hp
    refine ⟨Nat.lt_of_lt_of_le q1 hk.size, ?_⟩
    rcases hat with e | e
    · rw [e]; exact q2
    · rw [e]
      intro e'
      injection e' with e'
      omega
  refine ⟨v', W', hr, cs ++ [.slice a l.length c], by rw [List.length_append]; exact ho, h2.trans (hk.below h2.size fun k hk e => by have := (h1.lt k e.symm).1; omega), fun k hkl => ?_⟩
  rw [List.length_append, List.length_singleton] at hkl
  rcases Nat.lt_or_ge k L.length with hlt | hge
  · obtain ⟨a', c', q1, q2, q3⟩ := h3 k hlt
    have e : (L ++ [l]).getD k [] = L.getD k [] := by simp [List.getD, List.getElem?_append_left hlt]
    rw [e]
    obtain ⟨r1, r2⟩ := keepV q2 q3
    exact ⟨a', c', by rw [List.getElem?_append_left (by omega)]; exact q1, r1, r2⟩
  · obtain rfl : k = L.length := by omega
    have e : (L ++ [l]).getD L.length [] = l := by simp [List.getD]
    rw [e]
    obtain ⟨r1, r2⟩ := keepV hv ha
    exact ⟨a, c, by rw [List.getElem?_append_right (by omega), hcl, Nat.sub_self]; rfl, r1, r2⟩
theorem wpList_append_of {ops : Array Oper} {rest : List Oper} {o : Oper} {A : Act} {Q : Exit → Act → World → Prop} (hgd : o.guard = none) (s x : Operand)
    (ho : o.op = .call { callee := .builtin .append, args := #[s, x], argTypes := #[22, 22] })
    {w W : World} {u : Value} {L : List (List St.Bs)} {l : List St.Bs} {a : Option Addr} {c B : Nat} (hs : A.eval s = u) (h : OfRow w u L W) (hx : A.eval x = .slice (some ⟨B, 0, none⟩) 1 1) (hv : VS W a c l) (ha : Apart u a W) (hcell : W.cell? ⟨B, 0, none⟩ = some (.slice a l.length c)) (hl : L.length ≤ 1000)
    (hK : ∀ v' W', OfRow w v' (L ++ [l]) W' → wpList Try.prog ops Q rest (A.put o.dst v') W') : wpList Try.prog ops Q (o :: rest) A W :=
  wpList_plain hgd fun K hk => by
    obtain ⟨v', W', hr, h2⟩ := run_append_of h hv ha hcell hl o.type
    unfold Oper.wp execOp
    simp only [ho, resolve, invoke, builtin, Sem.run_bind, Sem.run_pure, Result.andThen_ok, List.map_toArray, List.map_cons, List.map_nil, hs, hx, hr]
    exact hk _ _ (hK v' W' h2)

/-- what SOf hands back lies apart from what there was. -/
theorem RowW.apart {W W' : World} {v : Value} {l : List St.Bs} (h : RowW W v l W') (u : Value) (hu : ∀ g, u.ownBlock = some g → g < W.heap.size) {a : Option Addr} {n c : Nat} (hv : v = .slice a n c) : Apart u a W' := by
  rintro p rfl
  subst hv
  rcases h.1.2 with ⟨h1, -⟩ | ⟨g, cap, cur, h1, hgB, hgg, -⟩
  · injection h1 with h1
    cases h1
  · injection h1 with h1
    cases h1
    have hlt : g < W'.heap.size := (Array.getElem?_eq_some_iff.1 hgg).1
    exact ⟨hlt, fun e => by have := hu _ e; simp at this; omega⟩
end Go.Proofs.Ytekdmnecjgpokaa
