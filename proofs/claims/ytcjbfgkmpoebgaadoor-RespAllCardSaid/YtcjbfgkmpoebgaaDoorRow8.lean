/- A row of bytes that is the call's own and may bear the mark of a conversion ([]byte(s)): under an append of one byte. -/
import Derived.Test.YtcjbfgkmpoebgaaDoorDig
import Derived.Laws.AppendOwn
import Derived.Lib.ConvBytes
import Derived.Lib.LazyBuf
namespace Go.Proofs.YtcjbfgkmpoebgaaDoor
open Go.RowKit

theorem getD8 {l : List UInt8} {k : Nat} (h : k < l.length) : l.getD k 0 = l[k] := by simp [List.getD, h]

/-- a []byte that is the call's own: its bytes, and room behind them. -/
def Own8 (base : Nat) (W : World) (v : Value) (l : List UInt8) : Prop :=
  ∃ g cap, v = .slice (some ⟨g, 0, none⟩) l.length cap ∧ base ≤ g ∧ g < W.heap.size ∧ l.length ≤ cap ∧ cap ≤ maxLen ∧
    (∀ k, k < cap → (W.cell? ⟨g, k, none⟩).isSome = true ∧ W.frozen? ⟨g, k, none⟩ = false) ∧
    ∀ k, k < l.length → W.cell? ⟨g, k, none⟩ = some (.int .u8 ((l.getD k 0).toNat : Int))

theorem own8_new (w : World) (s : List UInt8) (hs : s.length ≤ 1000000) : Own8 w.heap.size (Lib.bytesWorld w 5 ⟨s.toArray⟩) (.slice (some ⟨w.heap.size, 0, none⟩) s.length (grownCap w s.length 0 5)) s := by
  have hz : (⟨s.toArray⟩ : ByteArray).size = s.length := by simp [ByteArray.size]
  have hge := grownCap_ge w s.length 0 5
  refine ⟨w.heap.size, _, rfl, Nat.le_refl _, by rw [Lib.bytesWorld_size]; omega, hge, grownCap_le_maxLen w _ _ _ (by simp only [maxLen]; omega), ?_, fun k hk => by simpa using Lib.bytesWorld_cell w 5 ⟨s.toArray⟩ k (by rw [hz]; exact hk)⟩
  intro k hk
  have hat := Lib.bytesWorld_at_new w 5 ⟨s.toArray⟩
  have hsz : k < (Lib.bytesCells w 5 ⟨s.toArray⟩).size := by
    simp [Lib.bytesCells, hz]
    omega
  refine ⟨?_, ?_⟩
  · simp [World.cell?, hat]
    omega
  · simp [World.frozen?, hat]
    omega

theorem Own8.later {base : Nat} {W W' : World} {v : Value} {l : List UInt8} (h : Own8 base W v l) (hb : Below W.heap.size W W') : Own8 base W' v l := by
  obtain ⟨g, cap, rfl, h1, h2, h3, h4, h5, h6⟩ := h
  have e := hb.block g h2
  refine ⟨g, cap, rfl, h1, Nat.lt_of_lt_of_le h2 hb.size, h3, h4, fun k hk => ?_, fun k hk => ?_⟩
  · rw [World.cell?_of_block (w := W) (w' := W') (a := ⟨g, k, none⟩) e, World.frozen?_of_block (w := W) (w' := W') (a := ⟨g, k, none⟩) e]
    exact h5 k hk
  · rw [World.cell?_of_block (w := W) (w' := W') (a := ⟨g, k, none⟩) e]
    exact h6 k hk

/-- append(b, x), x one byte in a row of one. -/
theorem run_append8 {base : Nat} {W : World} {v : Value} {l : List UInt8} (h : Own8 base W v l) (hbase : base ≤ W.heap.size) (hl : l.length ≤ 1000000) (ad : Addr) (c : Nat) (x : UInt8) (hx : W.cell? ad = some (.int .u8 (x.toNat : Int))) (ty : TypeId)
    (i : TypeInfo) (hi : Tryd.prog.info? 5 = some i) (hz : i.zero = some (.int .u8 0)) (h1 : i.size = 1) (hb1 : i.bytes = 1) :
    ∃ v' W', (Builtin.append_ #[28, 28] ty #[v, .slice (some ad) 1 c]).run Tryd.prog W = .ok v' W' ∧ Own8 base W' v' (l ++ [x]) ∧ Below base W W' := by
  obtain ⟨g, cap, rfl, g1, g2, g3, g4, g5, g6⟩ := h
  have hnews : ∀ j u, [Value.int .u8 (x.toNat : Int)][j]? = some u → W.cell? (ad.add j) = some u := by
    intro j u hj
    match j, hj with
    | 0, hj =>
      simp at hj
      subst hj
      rw [show ad.add 0 = ad from by obtain ⟨b, o, s⟩ := ad; cases s <;> simp [Addr.add]]
      exact hx
  by_cases hroom : l.length + 1 ≤ cap
  · have hst := run_storeCells_cells (P := Tryd.prog) g l.length [Value.int .u8 (x.toNat : Int)] 0 W (fun j hj => by
      have : j = 0 := by simpa using hj
      subst this
      exact (g5 _ (by omega)).1) (fun j hj => by
      have : j = 0 := by simpa using hj
      subst this
      exact (g5 _ (by omega)).2) (fun v hv => by
      simp at hv
      subst hv
      rfl)
    have hf := run_firstCells_some (P := Tryd.prog) W i.size 1 ad 1 c [Value.int .u8 (x.toNat : Int)] (by rw [h1]; rfl) hnews
    simp only [Nat.add_zero, World.setCells, h1] at hst hf
    refine ⟨.slice (some ⟨g, 0, none⟩) (l.length + 1) cap, W.setCell ⟨g, l.length, none⟩ (.int .u8 (x.toNat : Int)), ?_, ?_, ?_⟩
    · simp [Builtin.append_, run_underlying Tryd.underlying28, sizeOf, typeInfo, hi, Builtin.lenOf, hroom, hf, Addr.add_lit, hst, h1]
    · refine ⟨g, cap, by simp, g1, by simpa using g2, by simpa using hroom, g4, fun k hk => ?_, fun k hk => ?_⟩
      · refine ⟨?_, by simpa using (g5 k hk).2⟩
        by_cases hkl : k = l.length
        · subst hkl
          rw [World.cell?_setCell_same' _ _ _ (g5 _ hk).1]
          rfl
        · rw [World.cell?_setCell_other _ _ _ _ (by first | (simp; done) | (simp; omega))]
          exact (g5 k hk).1
      · rw [List.length_append, List.length_singleton] at hk
        by_cases hkl : k = l.length
        · subst hkl
          rw [World.cell?_setCell_same' _ _ _ (g5 _ (by omega)).1]
          simp
        · rw [World.cell?_setCell_other _ _ _ _ (by first | (simp; done) | (simp; omega)), g6 k (by omega), getD8 (by omega), getD8 (by rw [List.length_append, List.length_singleton]; omega), List.getElem_append_left (by omega)]
    · exact (Below.refl base W).setCell (p := ⟨g, l.length, none⟩) g1 _
  · have hr := run_append_grow (P := Tryd.prog) W 28 ty 5 i (.int .u8 0) Tryd.underlying28 hi hz ⟨g, 0, none⟩ l.length cap (l.map fun b => Value.int .u8 (b.toNat : Int)) (by simp [h1]) (fun j u hj => by
      have hjl : j < l.length := by
        have := (List.getElem?_eq_some_iff.1 hj).1
        simpa using this
      have e : (⟨g, 0, none⟩ : Addr).add j = ⟨g, 0 + j, none⟩ := by unfold Addr.add; split <;> simp_all
      rw [e, Nat.zero_add, g6 j hjl, getD8 hjl]
      simpa [hjl] using hj) ad 1 c [Value.int .u8 (x.toNat : Int)] (by simp [h1]) hnews (by omega) (by omega) (growslice_fits (by omega) (by rw [hb1]; omega))
    have hge := grownCap_ge W (l.length + 1) cap 5
    have hcm := grownCap_le_maxLen W (l.length + 1) cap 5 (by simp only [maxLen]; omega)
    refine ⟨_, _, hr, ⟨W.heap.size, _, by simp, hbase, by simp, by simpa using hge, hcm, fun k hk => ?_, fun k hk => ?_⟩, ?_⟩
    · have hnew := heap_alloc_new W.drew (.cells ((l.map fun b => Value.int .u8 (b.toNat : Int)).toArray ++ [Value.int .u8 (x.toNat : Int)].toArray ++ Builtin.zeroCells (Value.int .u8 0).cells (grownCap W (l.length + 1) cap 5 - (l.length + 1))) 5)
      rw [show W.drew.heap.size = W.heap.size from rfl] at hnew
      have hsz : k < ((l.map fun b => Value.int .u8 (b.toNat : Int)).toArray ++ [Value.int .u8 (x.toNat : Int)].toArray ++ Builtin.zeroCells (Value.int .u8 0).cells (grownCap W (l.length + 1) cap 5 - (l.length + 1))).size := by
        simp only [Array.size_append, List.size_toArray, size_zeroCells, List.length_map, List.length_singleton, show (Value.int .u8 0).cells.size = 1 from rfl]
        omega
      refine ⟨?_, ?_⟩
      · rw [cell_of_row _ _ k _ _ _ hnew]
        simp only [Array.getElem?_eq_getElem hsz, Option.isSome_some]
      · unfold World.frozen?
        rw [show (W.drew.alloc _).heap[W.heap.size]? = _ from hnew]
        simp
    · have hnew := heap_alloc_new W.drew (.cells ((l.map fun b => Value.int .u8 (b.toNat : Int)).toArray ++ [Value.int .u8 (x.toNat : Int)].toArray ++ Builtin.zeroCells (Value.int .u8 0).cells (grownCap W (l.length + 1) cap 5 - (l.length + 1))) 5)
      rw [show W.drew.heap.size = W.heap.size from rfl] at hnew
      rw [List.length_append, List.length_singleton] at hk
      rw [cell_of_row _ _ k _ _ _ hnew, Array.getElem?_append_left (by simp only [Array.size_append, List.size_toArray, List.length_map, List.length_singleton]; omega), getD8 (by rw [List.length_append, List.length_singleton]; omega)]
      by_cases hkl : k = l.length
      · subst hkl
        simp
      · rw [List.getElem_append_left (by omega), Array.getElem?_append_left (by simp only [List.size_toArray, List.length_map]; omega)]
        simp [show k < l.length from by omega]
    · exact (Below.refl base W).drew.alloc (by simpa using hbase) _

/-- string(b). -/
theorem Own8.text {base : Nat} {W : World} {v : Value} {l : List UInt8} (h : Own8 base W v l) :
    (convert 28 9 v).run Tryd.prog W = .ok (.string ⟨l.toArray⟩) W := by
  obtain ⟨g, cap, rfl, g1, g2, g3, g4, g5, g6⟩ := h
  rw [run_convert_bytes_string _ _ _ _ _ _ _ Tryd.underlying28 Tryd.underlying5 Tryd.underlying9]
  have hl := run_loadCells_list (P := Tryd.prog) W ⟨g, 0, none⟩ ((l.map fun b => (b.toNat : Int)).map (Value.int .u8)) (fun j v hj => by
    have hjl : j < l.length := by
      have := (List.getElem?_eq_some_iff.1 hj).1
      simpa using this
    have e : (⟨g, 0, none⟩ : Addr).add j = ⟨g, 0 + j, none⟩ := by unfold Addr.add; split <;> simp_all
    rw [e, Nat.zero_add, g6 j hjl, getD8 hjl]
    simpa [hjl] using hj)
  simp only [List.length_map] at hl
  rw [run_bytesToString _ _ _ _ (l.map fun b => (b.toNat : Int)) hl]
  congr 2
  have key : ∀ (l : List UInt8) (acc : ByteArray), (l.map fun b => (b.toNat : Int)).foldl (fun r n => r.push (UInt8.ofNat n.toNat)) acc = ⟨acc.data ++ l.toArray⟩ := by
    intro l
    induction l with
    | nil => intro acc; simp
    | cons b l ih =>
      intro acc
      rw [List.map_cons, List.foldl_cons, ih]
      apply ByteArray.ext
      simp [ByteArray.push]
  rw [key]
  simp

/-- append as a step of a region. -/
theorem wpList_append8 {ops : Array Oper} {rest : List Oper} {o : Oper} {a : Act} {Q : Exit → Act → World → Prop} (hgd : o.guard = none) (s x : Operand)
    (ho : o.op = .call { callee := .builtin .append, args := #[s, x], argTypes := #[28, 28] })
    {base : Nat} {W : World} {v : Value} {l : List UInt8} (hs : a.eval s = v) (h : Own8 base W v l) (hbase : base ≤ W.heap.size) (hl : l.length ≤ 1000000) (ad : Addr) (c : Nat) (b : UInt8) (hx : a.eval x = .slice (some ad) 1 c) (hb : W.cell? ad = some (.int .u8 (b.toNat : Int)))
    (i : TypeInfo) (hi : Tryd.prog.info? 5 = some i) (hz : i.zero = some (.int .u8 0)) (h1 : i.size = 1) (hb1 : i.bytes = 1)
    (hK : ∀ v' W', Own8 base W' v' (l ++ [b]) → Below base W W' → wpList Tryd.prog ops Q rest (a.put o.dst v') W') : wpList Tryd.prog ops Q (o :: rest) a W :=
  wpList_plain hgd fun K hk => by
    obtain ⟨v', W', hr, h2, h3⟩ := run_append8 h hbase hl ad c b hb o.type i hi hz h1 hb1
    unfold Oper.wp execOp
    simp only [ho, resolve, invoke, builtin, Sem.run_bind, Sem.run_pure, Result.andThen_ok, List.map_toArray, List.map_cons, List.map_nil, hs, hx, hr]
    exact hk _ _ (hK v' W' h2 h3)

theorem setCells_cell {b : Nat} : ∀ (vs : List Value) (o : Nat) (w : World) (k : Nat), (∀ j, j < vs.length → (w.cell? ⟨b, o + j, none⟩).isSome = true) → (w.setCells b o vs).cell? ⟨b, k, none⟩ = if o ≤ k ∧ k < o + vs.length then vs[k - o]? else w.cell? ⟨b, k, none⟩
  | [], o, w, k, _ => by simp [World.setCells]; omega
  | v :: r, o, w, k, h => by
    have h0 := h 0 (by simp)
    rw [Nat.add_zero] at h0
    rw [World.setCells, setCells_cell r (o + 1) _ k (fun j hj => by
      rw [World.cell?_setCell_other _ _ _ _ (by first | (simp; done) | (simp; omega))]
      have := h (j + 1) (by simpa using hj)
      rwa [show o + 1 + j = o + (j + 1) from by omega])]
    by_cases hk : k = o
    · subst hk
      rw [if_neg (by omega), if_pos (by simp), World.cell?_setCell_same' _ _ _ h0]
      simp
    · rw [World.cell?_setCell_other _ _ _ _ (by first | (simp; done) | (simp; omega))]
      by_cases hin : o + 1 ≤ k ∧ k < o + 1 + r.length
      · rw [if_pos hin, if_pos (by simp; omega), show k - o = (k - (o + 1)) + 1 from by omega]
        simp
      · rw [if_neg hin, if_neg (by simp; omega)]

theorem setCells_frozen {b : Nat} : ∀ (vs : List Value) (o : Nat) (w : World) (p : Addr), (w.setCells b o vs).frozen? p = w.frozen? p
  | [], _, _, _ => rfl
  | v :: r, o, w, p => by rw [World.setCells, setCells_frozen r]; simp
theorem setCells_len {b : Nat} : ∀ (vs : List Value) (o : Nat) (w : World), (w.setCells b o vs).heap.size = w.heap.size
  | [], _, _ => rfl
  | v :: r, o, w => by rw [World.setCells, setCells_len r]; simp

/-- what copy(b[k:], x) leaves of b. -/
def over8 (l : List UInt8) (k : Nat) (x : List UInt8) : List UInt8 := l.take k ++ x ++ l.drop (k + x.length)
theorem over8_len {l x : List UInt8} {k : Nat} (h : k + x.length ≤ l.length) : (over8 l k x).length = l.length := by simp [over8]; omega

theorem Own8.over {base : Nat} {W : World} {g n cap : Nat} {l : List UInt8} (h : Own8 base W (.slice (some ⟨g, 0, none⟩) n cap) l) (k : Nat) (x : List UInt8) (hk : k + x.length ≤ l.length) :
    Own8 base (W.setCells g k (x.map fun b => Value.int .u8 (b.toNat : Int))) (.slice (some ⟨g, 0, none⟩) n cap) (over8 l k x) ∧ Below base W (W.setCells g k (x.map fun b => Value.int .u8 (b.toNat : Int))) := by
  obtain ⟨g', cap', e, g1, g2, g3, g4, g5, g6⟩ := h
  simp only [Value.slice.injEq, Option.some.injEq, Addr.mk.injEq, and_true] at e
  obtain ⟨rfl, rfl, rfl⟩ := e
  have hc : ∀ j, j < (x.map fun b => Value.int .u8 (b.toNat : Int)).length → (W.cell? ⟨g, k + j, none⟩).isSome = true := fun j hj => (g5 _ (by rw [List.length_map] at hj; omega)).1
  have hol := over8_len hk
  refine ⟨⟨g, cap, by rw [hol], g1, by rw [setCells_len]; exact g2, by rw [hol]; exact g3, g4, fun j hj => ?_, fun j hj => ?_⟩, below_setCells g1 _ _ _ (Below.refl base W)⟩
  · rw [setCells_frozen, setCells_cell _ _ _ _ hc]
    refine ⟨?_, (g5 j hj).2⟩
    split
    · rename_i hr
      rw [List.length_map] at hr
      simp [show j - k < x.length from by omega]
    · exact (g5 j hj).1
  · rw [hol] at hj
    rw [setCells_cell _ _ _ _ hc, List.length_map, getD8 (by rw [hol]; exact hj)]
    unfold over8
    split
    · rename_i hr
      rw [List.getElem_append_left (by simp; omega), List.getElem_append_right (by simp; omega)]
      simp [show j - k < x.length from by omega, Nat.min_eq_left (show k ≤ l.length from by omega)]
    · rename_i hr
      rw [g6 j hj, getD8 hj]
      by_cases hjk : j < k
      · rw [List.getElem_append_left (by simp; omega), List.getElem_append_left (by simp; omega)]
        simp
      · rw [List.getElem_append_right (by simp; omega)]
        simp [show k + x.length + (j - (k + x.length)) = j from by omega, Nat.min_eq_left (show k ≤ l.length from by omega)]

/-- copy(b[k:], x). -/
theorem run_copy8 {base : Nat} {W : World} {g n cap : Nat} {l : List UInt8} (h : Own8 base W (.slice (some ⟨g, 0, none⟩) n cap) l) (ty : TypeId) (k dn dc : Nat) (x : List UInt8) (hle : x.length ≤ dn) (hk : k + x.length ≤ l.length)
    (hz : ∀ w, (Go.sizeOf 5).run Tryd.prog w = .ok 1 w) :
    ∃ W', (Builtin.copy_ #[28, 9] ty #[.slice (some ⟨g, k, none⟩) dn dc, .string ⟨x.toArray⟩]).run Tryd.prog W = .ok (goInt x.length) W' ∧ Own8 base W' (.slice (some ⟨g, 0, none⟩) n cap) (over8 l k x) ∧ Below base W W' := by
  have hs : (⟨x.toArray⟩ : ByteArray).size = x.length := by simp [ByteArray.size]
  have hthere : ∀ j, j < x.length → (W.cell? ⟨g, k + j, none⟩).isSome = true ∧ W.frozen? ⟨g, k + j, none⟩ = false := by
    obtain ⟨g', cap', e, g1, g2, g3, g4, g5, g6⟩ := id h
    simp only [Value.slice.injEq, Option.some.injEq, Addr.mk.injEq, and_true] at e
    obtain ⟨rfl, rfl, rfl⟩ := e
    exact fun j hj => g5 _ (by omega)
  have hr := run_copy_string (P := Tryd.prog) W 28 9 ty 5 g k dn dc ⟨x.toArray⟩ Tryd.underlying28 hz (by rw [hs]; exact hle) (by rw [hs]; exact fun j hj => (hthere j hj).1) (by rw [hs]; exact fun j hj => (hthere j hj).2)
  rw [hs] at hr
  obtain ⟨h2, h3⟩ := h.over k x hk
  exact ⟨_, hr, h2, h3⟩
end Go.Proofs.YtcjbfgkmpoebgaaDoor
