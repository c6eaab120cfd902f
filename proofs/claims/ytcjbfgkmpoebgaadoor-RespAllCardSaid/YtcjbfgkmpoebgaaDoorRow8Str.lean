/- append(b, s...) of a string to a row that []byte(s) made. -/
import Derived.Test.YtcjbfgkmpoebgaaDoorRow8
import Derived.Lib.AppendStr
namespace Go.Proofs.YtcjbfgkmpoebgaaDoor
open Go.RowKit
set_option linter.unusedVariables false
set_option linter.unusedSimpArgs false

theorem strCells_at (x : List UInt8) : Lib.strCells ⟨x.toArray⟩ = x.map fun b => Value.int .u8 (b.toNat : Int) := by simp [Lib.strCells]

theorem run_append8_str {base : Nat} {W : World} {v : Value} {l : List UInt8} (h : Own8 base W v l) (hbase : base ≤ W.heap.size) (hl : l.length ≤ 1000000) (x : List UInt8) (hx : x.length ≤ 1000000) (ty : TypeId)
    (i : TypeInfo) (hi : Tryd.prog.info? 5 = some i) (hz : i.zero = some (.int .u8 0)) (h1 : i.size = 1) (hb1 : i.bytes = 1) :
    ∃ v' W', (Builtin.append_ #[28, 9] ty #[v, .string ⟨x.toArray⟩]).run Tryd.prog W = .ok v' W' ∧ Own8 base W' v' (l ++ x) ∧ Below base W W' := by
  obtain ⟨g, cap, rfl, g1, g2, g3, g4, g5, g6⟩ := h
  have hs : (⟨x.toArray⟩ : ByteArray).size = x.length := by simp [ByteArray.size]
  by_cases hroom : l.length + x.length ≤ cap
  · have hc : ∀ j, j < (x.map fun b => Value.int .u8 (b.toNat : Int)).length → (W.cell? ⟨g, l.length + j, none⟩).isSome = true := fun j hj => (g5 _ (by rw [List.length_map] at hj; omega)).1
    have hst := run_storeCells_cells (P := Tryd.prog) g l.length (x.map fun b => Value.int .u8 (b.toNat : Int)) 0 W (fun j hj => hc j hj) (fun j hj => (g5 _ (by rw [List.length_map] at hj; omega)).2) (fun v hv => by
      obtain ⟨b, -, rfl⟩ := List.mem_map.1 hv
      rfl)
    have hf := Lib.run_firstCells_string (P := Tryd.prog) W 1 ⟨x.toArray⟩
    rw [strCells_at, hs] at hf
    simp only [Nat.add_zero] at hst
    refine ⟨.slice (some ⟨g, 0, none⟩) (l.length + x.length) cap, W.setCells g l.length (x.map fun b => Value.int .u8 (b.toNat : Int)), ?_, ?_, ?_⟩
    · simp [Builtin.append_, run_underlying Tryd.underlying28, run_underlying Tryd.underlying9, sizeOf, typeInfo, hi, Builtin.lenOf, hroom, hf, Addr.add_lit, hst, h1, hs]
    · refine ⟨g, cap, by simp, g1, by rw [setCells_len]; exact g2, by rw [List.length_append]; exact hroom, g4, fun k hk => ?_, fun k hk => ?_⟩
      · rw [setCells_frozen, setCells_cell _ _ _ _ hc]
        refine ⟨?_, (g5 k hk).2⟩
        split
        · rename_i hr
          rw [List.length_map] at hr
          simp [show k - l.length < x.length from by omega]
        · exact (g5 k hk).1
      · rw [List.length_append] at hk
        rw [setCells_cell _ _ _ _ hc, List.length_map, getD8 (by rw [List.length_append]; exact hk)]
        split
        · rename_i hr
          rw [List.getElem_append_right (by omega)]
          simp [show k - l.length < x.length from by omega]
        · rw [List.getElem_append_left (by omega), g6 k (by omega), getD8 (by omega)]
    · exact below_setCells g1 _ _ _ (Below.refl base W)
  · have holds : ∀ j u, (l.map fun b => Value.int .u8 (b.toNat : Int))[j]? = some u → W.cell? ((⟨g, 0, none⟩ : Addr).add j) = some u := fun j u hj => by
      have hjl : j < l.length := by
        have := (List.getElem?_eq_some_iff.1 hj).1
        simpa using this
      have e : (⟨g, 0, none⟩ : Addr).add j = ⟨g, 0 + j, none⟩ := by unfold Addr.add; split <;> simp_all
      rw [e, Nat.zero_add, g6 j hjl, getD8 hjl]
      simpa [hjl] using hj
    have hr := Lib.run_append_grow_string (P := Tryd.prog) W 28 9 ty 5 i (.int .u8 0) Tryd.underlying28 Tryd.underlying9 hi hz ⟨g, 0, none⟩ l.length cap (l.map fun b => Value.int .u8 (b.toNat : Int)) (by simp [h1]) holds ⟨x.toArray⟩ (by rw [hs]; omega) (by rw [hs]; omega) (by rw [hb1, hs]; exact growslice_fits (by omega) (by omega))
    rw [hs, strCells_at] at hr
    have hge := grownCap_ge W (l.length + x.length) cap 5
    have hcm := grownCap_le_maxLen W (l.length + x.length) cap 5 (by simp only [maxLen]; omega)
    refine ⟨_, _, hr, ⟨W.heap.size, _, by simp, hbase, by simp, by simpa using hge, hcm, fun k hk => ?_, fun k hk => ?_⟩, ?_⟩
    · have hnew := heap_alloc_new W.drew (.cells ((l.map fun b => Value.int .u8 (b.toNat : Int)).toArray ++ (x.map fun b => Value.int .u8 (b.toNat : Int)).toArray ++ Builtin.zeroCells (Value.int .u8 0).cells (grownCap W (l.length + x.length) cap 5 - (l.length + x.length))) 5)
      rw [show W.drew.heap.size = W.heap.size from rfl] at hnew
      have hsz : k < ((l.map fun b => Value.int .u8 (b.toNat : Int)).toArray ++ (x.map fun b => Value.int .u8 (b.toNat : Int)).toArray ++ Builtin.zeroCells (Value.int .u8 0).cells (grownCap W (l.length + x.length) cap 5 - (l.length + x.length))).size := by
        simp only [Array.size_append, List.size_toArray, size_zeroCells, List.length_map, show (Value.int .u8 0).cells.size = 1 from rfl]
        omega
      refine ⟨?_, ?_⟩
      · rw [cell_of_row _ _ k _ _ _ hnew]
        simp only [Array.getElem?_eq_getElem hsz, Option.isSome_some]
      · unfold World.frozen?
        rw [show (W.drew.alloc _).heap[W.heap.size]? = _ from hnew]
        simp
    · have hnew := heap_alloc_new W.drew (.cells ((l.map fun b => Value.int .u8 (b.toNat : Int)).toArray ++ (x.map fun b => Value.int .u8 (b.toNat : Int)).toArray ++ Builtin.zeroCells (Value.int .u8 0).cells (grownCap W (l.length + x.length) cap 5 - (l.length + x.length))) 5)
      rw [show W.drew.heap.size = W.heap.size from rfl] at hnew
      rw [List.length_append] at hk
      rw [cell_of_row _ _ k _ _ _ hnew, Array.getElem?_append_left (by simp only [Array.size_append, List.size_toArray, List.length_map]; omega), getD8 (by rw [List.length_append]; omega)]
      by_cases hkl : k < l.length
      · rw [List.getElem_append_left hkl, Array.getElem?_append_left (by simp only [List.size_toArray, List.length_map]; exact hkl)]
        simp [hkl]
      · rw [List.getElem_append_right (by omega), Array.getElem?_append_right (by simp only [List.size_toArray, List.length_map]; omega)]
        simp [show k - l.length < x.length from by omega]
    · exact (Below.refl base W).drew.alloc (by simpa using hbase) _

theorem wpList_append8_str {ops : Array Oper} {rest : List Oper} {o : Oper} {a : Act} {Q : Exit → Act → World → Prop} (hgd : o.guard = none) (s x : Operand)
    (ho : o.op = .call { callee := .builtin .append, args := #[s, x], argTypes := #[28, 9] })
    {base : Nat} {W : World} {v : Value} {l : List UInt8} (hs : a.eval s = v) (h : Own8 base W v l) (hbase : base ≤ W.heap.size) (hl : l.length ≤ 1000000) (t : List UInt8) (hx : a.eval x = .string ⟨t.toArray⟩) (ht : t.length ≤ 1000000)
    (i : TypeInfo) (hi : Tryd.prog.info? 5 = some i) (hz : i.zero = some (.int .u8 0)) (h1 : i.size = 1) (hb1 : i.bytes = 1)
    (hK : ∀ v' W', Own8 base W' v' (l ++ t) → Below base W W' → wpList Tryd.prog ops Q rest (a.put o.dst v') W') : wpList Tryd.prog ops Q (o :: rest) a W :=
  wpList_plain hgd fun K hk => by
    obtain ⟨v', W', hr, h2, h3⟩ := run_append8_str h hbase hl t ht o.type i hi hz h1 hb1
    unfold Oper.wp execOp
    simp only [ho, resolve, invoke, builtin, Sem.run_bind, Sem.run_pure, Result.andThen_ok, List.map_toArray, List.map_cons, List.map_nil, hs, hx, hr]
    exact hk _ _ (hK v' W' h2 h3)
end Go.Proofs.YtcjbfgkmpoebgaaDoor
