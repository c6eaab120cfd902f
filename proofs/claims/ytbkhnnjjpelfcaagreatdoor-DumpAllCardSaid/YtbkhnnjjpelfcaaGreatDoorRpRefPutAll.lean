/- A row of bytes that is the call's own and may bear the mark of a conversion ([]byte(s)): under an append of one byte. append(b, s...) of a string to a row that []byte(s) made. The contracts of the reference's put and PutReply. The contracts of the reference's put at arrays, and of PutReply. -/
import Derived.Test.YtbkhnnjjpelfcaaGreatDoorDig
import Derived.Laws.AppendOwn
import Derived.Lib.ConvBytes
import Derived.Lib.LazyBuf
import Derived.Lib.AppendStr
import Derived.Test.YtbkhnnjjpelfcaaGreatDoorRpRefMayAll
import Derived.Deep.RegionHeld3
namespace Go.Proofs.YtbkhnnjjpelfcaaGreatDoor
open Go.RowKit

theorem getD8 {l : List UInt8} {k : Nat} (h : k < l.length) : l.getD k 0 = l[k] := by simp [List.getD, h]

/-- a []byte that is the call's own: its bytes, and room behind them. -/
def Own8 (base : Nat) (W : World) (v : Value) (l : List UInt8) : Prop :=
  ∃ g cap, v = .slice (some ⟨g, 0, none⟩) l.length cap ∧ base ≤ g ∧ g < W.heap.size ∧ l.length ≤ cap ∧ cap ≤ maxLen ∧
    (∀ k, k < cap → (W.cell? ⟨g, k, none⟩).isSome = true ∧ W.frozen? ⟨g, k, none⟩ = false) ∧
    ∀ k, k < l.length → W.cell? ⟨g, k, none⟩ = some (.int .u8 ((l.getD k 0).toNat : Int))

theorem own8_new (w : World) (s : List UInt8) (hs : s.length ≤ 1000000) : Own8 w.heap.size (Lib.bytesWorld w 5 ⟨s.toArray⟩) (.slice (some ⟨w.heap.size, 0, none⟩) s.length (grownCap w s.length 0 5)) s := by
  have hz : (⟨s.toArray⟩ : ByteArray).size = s.length := by simp [ByteArray.size]
  have hge := grownCap_ge w s.length 0 5
  refine ⟨w.heap.size, _, rfl, Nat.le_refl _, by rw [Lib.bytesWorld_size]; omega, hge, grownCap_le_maxLen w _ _ _ (by simp only [maxLen]; omega), ?_, fun k hk => by simpa using Lib.bytesWorld_cell w 5 ⟨s.toArray⟩ k (by rw [hz]; exact hk)⟩
  intro k hk
  have hat := Lib.bytesWorld_at_new w 5 ⟨s.toArray⟩
  have hsz : k < (Lib.bytesCells w 5 ⟨s.toArray⟩).size := by
    simp [Lib.bytesCells, hz]
    omega
  refine ⟨?_, ?_⟩
  · simp [World.cell?, hat]
    omega
  · simp [World.frozen?, hat]
    omega

theorem Own8.later {base : Nat} {W W' : World} {v : Value} {l : List UInt8} (h : Own8 base W v l) (hb : Below W.heap.size W W') : Own8 base W' v l := by
  obtain ⟨g, cap, rfl, h1, h2, h3, h4, h5, h6⟩ := h
  have e := hb.block g h2
  refine ⟨g, cap, rfl, h1, Nat.lt_of_lt_of_le h2 hb.size, h3, h4, fun k hk => ?_, fun k hk => ?_⟩
  · rw [World.cell?_of_block (w := W) (w' := W') (a := ⟨g, k, none⟩) e, World.frozen?_of_block (w := W) (w' := W') (a := ⟨g, k, none⟩) e]
    exact h5 k hk
  · rw [World.cell?_of_block (w := W) (w' := W') (a := ⟨g, k, none⟩) e]
    exact h6 k hk

/-- append(b, x), x one byte in a row of one. -/
theorem run_append8 {base : Nat} {W : World} {v : Value} {l : List UInt8} (h : Own8 base W v l) (hbase : base ≤ W.heap.size) (hl : l.length ≤ 1000000) (ad : Addr) (c : Nat) (x : UInt8) (hx : W.cell? ad = some (.int .u8 (x.toNat : Int))) (ty : TypeId)
    (i : TypeInfo) (hi : Tryz.prog.info? 5 = some i) (hz : i.zero = some (.int .u8 0)) (h1 : i.size = 1) (hb1 : i.bytes = 1) :
    ∃ v' W', (Builtin.append_ #[36, 36] ty #[v, .slice (some ad) 1 c]).run Tryz.prog W = .ok v' W' ∧ Own8 base W' v' (l ++ [x]) ∧ Below base W W' := by
  obtain ⟨g, cap, rfl, g1, g2, g3, g4, g5, g6⟩ := h
  have hnews : ∀ j u, [Value.int .u8 (x.toNat : Int)][j]? = some u → W.cell? (ad.add j) = some u := by
    intro j u hj
    match j, hj with
    | 0, hj =>
      simp at hj
      subst hj
      rw [show ad.add 0 = ad from by obtain ⟨b, o, s⟩ := ad; cases s <;> simp [Addr.add]]
      exact hx
  by_cases hroom : l.length + 1 ≤ cap
  · have hst := run_storeCells_cells (P := Tryz.prog) g l.length [Value.int .u8 (x.toNat : Int)] 0 W (fun j hj => by
      have : j = 0 := by simpa using hj
      subst this
      exact (g5 _ (by omega)).1) (fun j hj => by
      have : j = 0 := by simpa using hj
      subst this
      exact (g5 _ (by omega)).2) (fun v hv => by
      simp at hv
      subst hv
      rfl)
    have hf := run_firstCells_some (P := Tryz.prog) W i.size 1 ad 1 c [Value.int .u8 (x.toNat : Int)] (by rw [h1]; rfl) hnews
    simp only [Nat.add_zero, World.setCells, h1] at hst hf
    refine ⟨.slice (some ⟨g, 0, none⟩) (l.length + 1) cap, W.setCell ⟨g, l.length, none⟩ (.int .u8 (x.toNat : Int)), ?_, ?_, ?_⟩
    · simp [Builtin.append_, run_underlying Tryz.underlying36, sizeOf, typeInfo, hi, Builtin.lenOf, hroom, hf, Addr.add_lit, hst, h1]
    · refine ⟨g, cap, by simp, g1, by simpa using g2, by simpa using hroom, g4, fun k hk => ?_, fun k hk => ?_⟩
      · refine ⟨?_, by simpa using (g5 k hk).2⟩
        by_cases hkl : k = l.length
        · subst hkl
          rw [World.cell?_setCell_same' _ _ _ (g5 _ hk).1]
          rfl
        · rw [World.cell?_setCell_other _ _ _ _ (by first | (simp; done) | (simp; omega))]
          exact (g5 k hk).1
      · rw [List.length_append, List.length_singleton] at hk
        by_cases hkl : k = l.length
        · subst hkl
          rw [World.cell?_setCell_same' _ _ _ (g5 _ (by omega)).1]
          simp
        · rw [World.cell?_setCell_other _ _ _ _ (by first | (simp; done) | (simp; omega)), g6 k (by omega), getD8 (by omega), getD8 (by rw [List.length_append, List.length_singleton]; omega), List.getElem_append_left (by omega)]
    · exact (Below.refl base W).setCell (p := ⟨g, l.length, none⟩) g1 _
  · have hr := run_append_grow (P := Tryz.prog) W 36 ty 5 i (.int .u8 0) Tryz.underlying36 hi hz ⟨g, 0, none⟩ l.length cap (l.map fun b => Value.int .u8 (b.toNat : Int)) (by simp [h1]) (fun j u hj => by
      have hjl : j < l.length := by
        have := (List.getElem?_eq_some_iff.1 hj).1
        simpa using this
      have e : (⟨g, 0, none⟩ : Addr).add j = ⟨g, 0 + j, none⟩ := by unfold Addr.add; split <;> simp_all
      rw [e, Nat.zero_add, g6 j hjl, getD8 hjl]
      simpa [hjl] using hj) ad 1 c [Value.int .u8 (x.toNat : Int)] (by simp [h1]) hnews (by omega) (by omega) (growslice_fits (by omega) (by rw [hb1]; omega))
    have hge := grownCap_ge W (l.length + 1) cap 5
    have hcm := grownCap_le_maxLen W (l.length + 1) cap 5 (by simp only [maxLen]; omega)
    refine ⟨_, _, hr, ⟨W.heap.size, _, by simp, hbase, by simp, by simpa using hge, hcm, fun k hk => ?_, fun k hk => ?_⟩, ?_⟩
    · have hnew := heap_alloc_new W.drew (.cells ((l.map fun b => Value.int .u8 (b.toNat : Int)).toArray ++ [Value.int .u8 (x.toNat : Int)].toArray ++ Builtin.zeroCells (Value.int .u8 0).cells (grownCap W (l.length + 1) cap 5 - (l.length + 1))) 5)
      rw [show W.drew.heap.size = W.heap.size from rfl] at hnew
      have hsz : k < ((l.map fun b => Value.int .u8 (b.toNat : Int)).toArray ++ [Value.int .u8 (x.toNat : Int)].toArray ++ Builtin.zeroCells (Value.int .u8 0).cells (grownCap W (l.length + 1) cap 5 - (l.length + 1))).size := by
        simp only [Array.size_append, List.size_toArray, size_zeroCells, List.length_map, List.length_singleton, show (Value.int .u8 0).cells.size = 1 from rfl]
        omega
      refine ⟨?_, ?_⟩
      · rw [cell_of_row _ _ k _ _ _ hnew]
        simp only [Array.getElem?_eq_getElem hsz, Option.isSome_some]
      · unfold World.frozen?
        rw [show (W.drew.alloc _).heap[W.heap.size]? = _ from hnew]
        simp
    · have hnew := heap_alloc_new W.drew (.cells ((l.map fun b => Value.int .u8 (b.toNat : Int)).toArray ++ [Value.int .u8 (x.toNat : Int)].toArray ++ Builtin.zeroCells (Value.int .u8 0).cells (grownCap W (l.length + 1) cap 5 - (l.length + 1))) 5)
      rw [show W.drew.heap.size = W.heap.size from rfl] at hnew
      rw [List.length_append, List.length_singleton] at hk
      rw [cell_of_row _ _ k _ _ _ hnew, Array.getElem?_append_left (by simp only [Array.size_append, List.size_toArray, List.length_map, List.length_singleton]; omega), getD8 (by rw [List.length_append, List.length_singleton]; omega)]
      by_cases hkl : k = l.length
      · subst hkl
        simp
      · rw [List.getElem_append_left (by omega), Array.getElem?_append_left (by simp only [List.size_toArray, List.length_map]; omega)]
        simp [show k < l.length from by omega]
    · exact (Below.refl base W).drew.alloc (by simpa using hbase) _

/-- string(b). -/
theorem Own8.text {base : Nat} {W : World} {v : Value} {l : List UInt8} (h : Own8 base W v l) :
    (convert 36 9 v).run Tryz.prog W = .ok (.string ⟨l.toArray⟩) W := by
  obtain ⟨g, cap, rfl, g1, g2, g3, g4, g5, g6⟩ := h
  rw [run_convert_bytes_string _ _ _ _ _ _ _ Tryz.underlying36 Tryz.underlying5 Tryz.underlying9]
  have hl := run_loadCells_list (P := Tryz.prog) W ⟨g, 0, none⟩ ((l.map fun b => (b.toNat : Int)).map (Value.int .u8)) (fun j v hj => by
    have hjl : j < l.length := by
      have := (List.getElem?_eq_some_iff.1 hj).1
      simpa using this
    have e : (⟨g, 0, none⟩ : Addr).add j = ⟨g, 0 + j, none⟩ := by unfold Addr.add; split <;> simp_all
    rw [e, Nat.zero_add, g6 j hjl, getD8 hjl]
    simpa [hjl] using hj)
  simp only [List.length_map] at hl
  rw [run_bytesToString _ _ _ _ (l.map fun b => (b.toNat : Int)) hl]
  congr 2
  have key : ∀ (l : List UInt8) (acc : ByteArray), (l.map fun b => (b.toNat : Int)).foldl (fun r n => r.push (UInt8.ofNat n.toNat)) acc = ⟨acc.data ++ l.toArray⟩ := by
    intro l
    induction l with
    | nil => intro acc; simp
    | cons b l ih =>
      intro acc
      rw [List.map_cons, List.foldl_cons, ih]
      apply ByteArray.ext
      simp [ByteArray.push]
  rw [key]
  simp

/-- append as a step of a region. -/
theorem wpList_append8 {ops : Array Oper} {rest : List Oper} {o : Oper} {a : Act} {Q : Exit → Act → World → Prop} (hgd : o.guard = none) (s x : Operand)
    (ho : o.op = .call { callee := .builtin .append, args := #[s, x], argTypes := #[36, 36] })
    {base : Nat} {W : World} {v : Value} {l : List UInt8} (hs : a.eval s = v) (h : Own8 base W v l) (hbase : base ≤ W.heap.size) (hl : l.length ≤ 1000000) (ad : Addr) (c : Nat) (b : UInt8) (hx : a.eval x = .slice (some ad) 1 c) (hb : W.cell? ad = some (.int .u8 (b.toNat : Int)))
    (i : TypeInfo) (hi : Tryz.prog.info? 5 = some i) (hz : i.zero = some (.int .u8 0)) (h1 : i.size = 1) (hb1 : i.bytes = 1)
    (hK : ∀ v' W', Own8 base W' v' (l ++ [b]) → Below base W W' → wpList Tryz.prog ops Q rest (a.put o.dst v') W') : wpList Tryz.prog ops Q (o :: rest) a W :=
  wpList_plain hgd fun K hk => by
    obtain ⟨v', W', hr, h2, h3⟩ := run_append8 h hbase hl ad c b hb o.type i hi hz h1 hb1
    unfold Oper.wp execOp
    simp only [ho, resolve, invoke, builtin, Sem.run_bind, Sem.run_pure, Result.andThen_ok, List.map_toArray, List.map_cons, List.map_nil, hs, hx, hr]
    exact hk _ _ (hK v' W' h2 h3)

theorem setCells_cell {b : Nat} : ∀ (vs : List Value) (o : Nat) (w : World) (k : Nat), (∀ j, j < vs.length → (w.cell? ⟨b, o + j, none⟩).isSome = true) → (w.setCells b o vs).cell? ⟨b, k, none⟩ = if o ≤ k ∧ k < o + vs.length then vs[k - o]? else w.cell? ⟨b, k, none⟩
  | [], o, w, k, _ => by simp [World.setCells]; omega
  | v :: r, o, w, k, h => by
    have h0 := h 0 (by simp)
    rw [Nat.add_zero] at h0
    rw [World.setCells, setCells_cell r (o + 1) _ k (fun j hj => by
      rw [World.cell?_setCell_other _ _ _ _ (by first | (simp; done) | (simp; omega))]
      have := h (j + 1) (by simpa using hj)
      rwa [show o + 1 + j = o + (j + 1) from by omega])]
    by_cases hk : k = o
    · subst hk
      rw [if_neg (by omega), if_pos (by simp), World.cell?_setCell_same' _ _ _ h0]
      simp
    · rw [World.cell?_setCell_other _ _ _ _ (by first | (simp; done) | (simp; omega))]
      by_cases hin : o + 1 ≤ k ∧ k < o + 1 + r.length
      · rw [if_pos hin, if_pos (by simp; omega), show k - o = (k - (o + 1)) + 1 from by omega]
        simp
      · rw [if_neg hin, if_neg (by simp; omega)]

theorem setCells_frozen {b : Nat} : ∀ (vs : List Value) (o : Nat) (w : World) (p : Addr), (w.setCells b o vs).frozen? p = w.frozen? p
  | [], _, _, _ => rfl
  | v :: r, o, w, p => by rw [World.setCells, setCells_frozen r]; simp
theorem setCells_len {b : Nat} : ∀ (vs : List Value) (o : Nat) (w : World), (w.setCells b o vs).heap.size = w.heap.size
  | [], _, _ => rfl
  | v :: r, o, w => by rw [World.setCells, setCells_len r]; simp

/-- what copy(b[k:], x) leaves of b. -/
def over8 (l : List UInt8) (k : Nat) (x : List UInt8) : List UInt8 := l.take k ++ x ++ l.drop (k + x.length)
theorem over8_len {l x : List UInt8} {k : Nat} (h : k + x.length ≤ l.length) : (over8 l k x).length = l.length := by simp [over8]; omega

theorem Own8.over {base : Nat} {W : World} {g n cap : Nat} {l : List UInt8} (h : Own8 base W (.slice (some ⟨g, 0, none⟩) n cap) l) (k : Nat) (x : List UInt8) (hk : k + x.length ≤ l.length) :
    Own8 base (W.setCells g k (x.map fun b => Value.int .u8 (b.toNat : Int))) (.slice (some ⟨g, 0, none⟩) n cap) (over8 l k x) ∧ Below base W (W.setCells g k (x.map fun b => Value.int .u8 (b.toNat : Int))) := by
  obtain ⟨g', cap', e, g1, g2, g3, g4, g5, g6⟩ := h
  simp only [Value.slice.injEq, Option.some.injEq, Addr.mk.injEq, and_true] at e
  obtain ⟨rfl, rfl, rfl⟩ := e
  have hc : ∀ j, j < (x.map fun b => Value.int .u8 (b.toNat : Int)).length → (W.cell? ⟨g, k + j, none⟩).isSome = true := fun j hj => (g5 _ (by rw [List.length_map] at hj; omega)).1
  have hol := over8_len hk
  refine ⟨⟨g, cap, by rw [hol], g1, by rw [setCells_len]; exact g2, by rw [hol]; exact g3, g4, fun j hj => ?_, fun j hj => ?_⟩, below_setCells g1 _ _ _ (Below.refl base W)⟩
  · rw [setCells_frozen, setCells_cell _ _ _ _ hc]
    refine ⟨?_, (g5 j hj).2⟩
    split
    · rename_i hr
      rw [List.length_map] at hr
      simp [show j - k < x.length from by omega]
    · exact (g5 j hj).1
  · rw [hol] at hj
    rw [setCells_cell _ _ _ _ hc, List.length_map, getD8 (by rw [hol]; exact hj)]
    unfold over8
    split
    · rename_i hr
      rw [List.getElem_append_left (by simp; omega), List.getElem_append_right (by simp; omega)]
      simp [show j - k < x.length from by omega, Nat.min_eq_left (show k ≤ l.length from by omega)]
    · rename_i hr
      rw [g6 j hj, getD8 hj]
      by_cases hjk : j < k
      · rw [List.getElem_append_left (by simp; omega), List.getElem_append_left (by simp; omega)]
        simp
      · rw [List.getElem_append_right (by simp; omega)]
        simp [show k + x.length + (j - (k + x.length)) = j from by omega, Nat.min_eq_left (show k ≤ l.length from by omega)]

/-- copy(b[k:], x). -/
theorem run_copy8 {base : Nat} {W : World} {g n cap : Nat} {l : List UInt8} (h : Own8 base W (.slice (some ⟨g, 0, none⟩) n cap) l) (ty : TypeId) (k dn dc : Nat) (x : List UInt8) (hle : x.length ≤ dn) (hk : k + x.length ≤ l.length)
    (hz : ∀ w, (Go.sizeOf 5).run Tryz.prog w = .ok 1 w) :
    ∃ W', (Builtin.copy_ #[36, 9] ty #[.slice (some ⟨g, k, none⟩) dn dc, .string ⟨x.toArray⟩]).run Tryz.prog W = .ok (goInt x.length) W' ∧ Own8 base W' (.slice (some ⟨g, 0, none⟩) n cap) (over8 l k x) ∧ Below base W W' := by
  have hs : (⟨x.toArray⟩ : ByteArray).size = x.length := by simp [ByteArray.size]
  have hthere : ∀ j, j < x.length → (W.cell? ⟨g, k + j, none⟩).isSome = true ∧ W.frozen? ⟨g, k + j, none⟩ = false := by
    obtain ⟨g', cap', e, g1, g2, g3, g4, g5, g6⟩ := id h
    simp only [Value.slice.injEq, Option.some.injEq, Addr.mk.injEq, and_true] at e
    obtain ⟨rfl, rfl, rfl⟩ := e
    exact fun j hj => g5 _ (by omega)
  have hr := run_copy_string (P := Tryz.prog) W 36 9 ty 5 g k dn dc ⟨x.toArray⟩ Tryz.underlying36 hz (by rw [hs]; exact hle) (by rw [hs]; exact fun j hj => (hthere j hj).1) (by rw [hs]; exact fun j hj => (hthere j hj).2)
  rw [hs] at hr
  obtain ⟨h2, h3⟩ := h.over k x hk
  exact ⟨_, hr, h2, h3⟩
end Go.Proofs.YtbkhnnjjpelfcaaGreatDoor
namespace Go.Proofs.YtbkhnnjjpelfcaaGreatDoor
open Go.RowKit
set_option linter.unusedVariables false
set_option linter.unusedSimpArgs false

theorem strCells_at (x : List UInt8) : Lib.strCells ⟨x.toArray⟩ = x.map fun b => Value.int .u8 (b.toNat : Int) := by simp [Lib.strCells]

theorem run_append8_str {base : Nat} {W : World} {v : Value} {l : List UInt8} (h : Own8 base W v l) (hbase : base ≤ W.heap.size) (hl : l.length ≤ 1000000) (x : List UInt8) (hx : x.length ≤ 1000000) (ty : TypeId)
    (i : TypeInfo) (hi : Tryz.prog.info? 5 = some i) (hz : i.zero = some (.int .u8 0)) (h1 : i.size = 1) (hb1 : i.bytes = 1) :
    ∃ v' W', (Builtin.append_ #[36, 9] ty #[v, .string ⟨x.toArray⟩]).run Tryz.prog W = .ok v' W' ∧ Own8 base W' v' (l ++ x) ∧ Below base W W' := by
  obtain ⟨g, cap, rfl, g1, g2, g3, g4, g5, g6⟩ := h
  have hs : (⟨x.toArray⟩ : ByteArray).size = x.length := by simp [ByteArray.size]
  by_cases hroom : l.length + x.length ≤ cap
  · have hc : ∀ j, j < (x.map fun b => Value.int .u8 (b.toNat : Int)).length → (W.cell? ⟨g, l.length + j, none⟩).isSome = true := fun j hj => (g5 _ (by rw [List.length_map] at hj; omega)).1
    have hst := run_storeCells_cells (P := Tryz.prog) g l.length (x.map fun b => Value.int .u8 (b.toNat : Int)) 0 W (fun j hj => hc j hj) (fun j hj => (g5 _ (by rw [List.length_map] at hj; omega)).2) (fun v hv => by
      obtain ⟨b, -, rfl⟩ := List.mem_map.1 hv
      rfl)
    have hf := Lib.run_firstCells_string (P := Tryz.prog) W 1 ⟨x.toArray⟩
    rw [strCells_at, hs] at hf
    simp only [Nat.add_zero] at hst
    refine ⟨.slice (some ⟨g, 0, none⟩) (l.length + x.length) cap, W.setCells g l.length (x.map fun b => Value.int .u8 (b.toNat : Int)), ?_, ?_, ?_⟩
    · simp [Builtin.append_, run_underlying Tryz.underlying36, run_underlying Tryz.underlying9, sizeOf, typeInfo, hi, Builtin.lenOf, hroom, hf, Addr.add_lit, hst, h1, hs]
    · refine ⟨g, cap, by simp, g1, by rw [setCells_len]; exact g2, by rw [List.length_append]; exact hroom, g4, fun k hk => ?_, fun k hk => ?_⟩
      · rw [setCells_frozen, setCells_cell _ _ _ _ hc]
        refine ⟨?_, (g5 k hk).2⟩
        split
        · rename_i hr
          rw [List.length_map] at hr
          simp [show k - l.length < x.length from by omega]
        · exact (g5 k hk).1
      · rw [List.length_append] at hk
        rw [setCells_cell _ _ _ _ hc, List.length_map, getD8 (by rw [List.length_append]; exact hk)]
        split
        · rename_i hr
          rw [List.getElem_append_right (by omega)]
          simp [show k - l.length < x.length from by omega]
        · rw [List.getElem_append_left (by omega), g6 k (by omega), getD8 (by omega)]
    · exact below_setCells g1 _ _ _ (Below.refl base W)
  · have holds : ∀ j u, (l.map fun b => Value.int .u8 (b.toNat : Int))[j]? = some u → W.cell? ((⟨g, 0, none⟩ : Addr).add j) = some u := fun j u hj => by
      have hjl : j < l.length := by
        have := (List.getElem?_eq_some_iff.1 hj).1
        simpa using this
      have e : (⟨g, 0, none⟩ : Addr).add j = ⟨g, 0 + j, none⟩ := by unfold Addr.add; split <;> simp_all
      rw [e, Nat.zero_add, g6 j hjl, getD8 hjl]
      simpa [hjl] using hj
    have hr := Lib.run_append_grow_string (P := Tryz.prog) W 36 9 ty 5 i (.int .u8 0) Tryz.underlying36 Tryz.underlying9 hi hz ⟨g, 0, none⟩ l.length cap (l.map fun b => Value.int .u8 (b.toNat : Int)) (by simp [h1]) holds ⟨x.toArray⟩ (by rw [hs]; omega) (by rw [hs]; omega) (by rw [hb1, hs]; exact growslice_fits (by omega) (by omega))
    rw [hs, strCells_at] at hr
    have hge := grownCap_ge W (l.length + x.length) cap 5
    have hcm := grownCap_le_maxLen W (l.length + x.length) cap 5 (by simp only [maxLen]; omega)
    refine ⟨_, _, hr, ⟨W.heap.size, _, by simp, hbase, by simp, by simpa using hge, hcm, fun k hk => ?_, fun k hk => ?_⟩, ?_⟩
    · have hnew := heap_alloc_new W.drew (.cells ((l.map fun b => Value.int .u8 (b.toNat : Int)).toArray ++ (x.map fun b => Value.int .u8 (b.toNat : Int)).toArray ++ Builtin.zeroCells (Value.int .u8 0).cells (grownCap W (l.length + x.length) cap 5 - (l.length + x.length))) 5)
      rw [show W.drew.heap.size = W.heap.size from rfl] at hnew
      have hsz : k < ((l.map fun b => Value.int .u8 (b.toNat : Int)).toArray ++ (x.map fun b => Value.int .u8 (b.toNat : Int)).toArray ++ Builtin.zeroCells (Value.int .u8 0).cells (grownCap W (l.length + x.length) cap 5 - (l.length + x.length))).size := by
        simp only [Array.size_append, List.size_toArray, size_zeroCells, List.length_map, show (Value.int .u8 0).cells.size = 1 from rfl]
        omega
      refine ⟨?_, ?_⟩
      · rw [cell_of_row _ _ k _ _ _ hnew]
        simp only [Array.getElem?_eq_getElem hsz, Option.isSome_some]
      · unfold World.frozen?
        rw [show (W.drew.alloc _).heap[W.heap.size]? = _ from hnew]
        simp
    · have hnew := heap_alloc_new W.drew (.cells ((l.map fun b => Value.int .u8 (b.toNat : Int)).toArray ++ (x.map fun b => Value.int .u8 (b.toNat : Int)).toArray ++ Builtin.zeroCells (Value.int .u8 0).cells (grownCap W (l.length + x.length) cap 5 - (l.length + x.length))) 5)
      rw [show W.drew.heap.size = W.heap.size from rfl] at hnew
      rw [List.length_append] at hk
      rw [cell_of_row _ _ k _ _ _ hnew, Array.getElem?_append_left (by simp only [Array.size_append, List.size_toArray, List.length_map]; omega), getD8 (by rw [List.length_append]; omega)]
      by_cases hkl : k < l.length
      · rw [List.getElem_append_left hkl, Array.getElem?_append_left (by simp only [List.size_toArray, List.length_map]; exact hkl)]
        simp [hkl]
      · rw [List.getElem_append_right (by omega), Array.getElem?_append_right (by simp only [List.size_toArray, List.length_map]; omega)]
        simp [show k - l.length < x.length from by omega]
    · exact (Below.refl base W).drew.alloc (by simpa using hbase) _

theorem wpList_append8_str {ops : Array Oper} {rest : List Oper} {o : Oper} {a : Act} {Q : Exit → Act → World → Prop} (hgd : o.guard = none) (s x : Operand)
    (ho : o.op = .call { callee := .builtin .append, args := #[s, x], argTypes := #[36, 9] })
    {base : Nat} {W : World} {v : Value} {l : List UInt8} (hs : a.eval s = v) (h : Own8 base W v l) (hbase : base ≤ W.heap.size) (hl : l.length ≤ 1000000) (t : List UInt8) (hx : a.eval x = .string ⟨t.toArray⟩) (ht : t.length ≤ 1000000)
    (i : TypeInfo) (hi : Tryz.prog.info? 5 = some i) (hz : i.zero = some (.int .u8 0)) (h1 : i.size = 1) (hb1 : i.bytes = 1)
    (hK : ∀ v' W', Own8 base W' v' (l ++ t) → Below base W W' → wpList Tryz.prog ops Q rest (a.put o.dst v') W') : wpList Tryz.prog ops Q (o :: rest) a W :=
  wpList_plain hgd fun K hk => by
    obtain ⟨v', W', hr, h2, h3⟩ := run_append8_str h hbase hl t ht o.type i hi hz h1 hb1
    unfold Oper.wp execOp
    simp only [ho, resolve, invoke, builtin, Sem.run_bind, Sem.run_pure, Result.andThen_ok, List.map_toArray, List.map_cons, List.map_nil, hs, hx, hr]
    exact hk _ _ (hK v' W' h2 h3)
end Go.Proofs.YtbkhnnjjpelfcaaGreatDoor
namespace Go.Proofs.YtbkhnnjjpelfcaaGreatDoor
open Go.RowKit Go.Shelf
attribute [local go_sem] Oper.semAt_some
set_option linter.unusedVariables false
set_option linter.unusedSimpArgs false

theorem Own8.down {base base' : Nat} {W : World} {v : Value} {l : List UInt8} (h : Own8 base W v l) (hb : base' ≤ base) : Own8 base' W v l := by
  obtain ⟨g, cap, hv, g1, h⟩ := h
  exact ⟨g, cap, hv, by omega, h⟩
theorem str_add (x y : List UInt8) : (⟨x.toArray⟩ : ByteArray) ++ ⟨y.toArray⟩ = ⟨(x ++ y).toArray⟩ := by
  apply ByteArray.ext
  simp
/-- a sum of two texts, as a run. -/
theorem add_run (x y : List UInt8) (h : x.length + y.length ≤ 1000000000) (W : World) : (Op.stringOp .add ⟨x.toArray⟩ ⟨y.toArray⟩).run Tryz.prog W = .ok (.string ⟨(x ++ y).toArray⟩) W :=
  (run_string_add_sum _ _ _ (by simp [ByteArray.size]; omega)).trans (by rw [str_add])

theorem enc_own {k : Int} {s : List UInt8} {n : Int} {l : List Rp.R} (h : Rp.fitsB ⟨k, s, n, l.length⟩ = true) (hk : k ≠ 6) : Rp.enc (.mk k s n l) = Rp.own ⟨k, s, n, 0⟩ ∧ l = [] := by
  have hl : l.length = 0 := by
    unfold Rp.fitsB at h
    repeat' split at h
    all_goals first
      | (simp at h; simp [h]; done)
      | (simp at h; done)
      | (rename_i h6; exact (hk h6).elim)
  have := List.eq_nil_of_length_eq_zero hl
  subst this
  rw [Rp.enc]
  exact ⟨by simp [Rp.encL], rfl⟩

set_option maxRecDepth 100000 in
set_option maxHeartbeats 8000000 in
theorem put_flat (k : Int) (s : List UInt8) (n : Int) (l : List Rp.R) (a : Option Addr) (c : Nat) (w : World) (hf : Fit k s n l.length c) (hk6 : k ≠ 6) (hok : Rp.fitsB ⟨k, s, n, l.length⟩ = true) (hlen : s.length ≤ 1000000) :
    Calls Tryz.prog 67 #[.agg #[.int .i64 k, .string ⟨s.toArray⟩, .int .i64 n, .slice a l.length c]] w fun e W => e = .returned (.string ⟨(Rp.enc (.mk k s n l)).toArray⟩) ∧ Below w.heap.size w W := by
  obtain ⟨he, hl⟩ := enc_own hok hk6
  subst hl
  obtain ⟨f1, f2, f3, f4, f5, f6, f7, f8⟩ := hf
  have hbel : ∀ o, Below w.heap.size w (w.alloc o) := fun o => (Below.refl _ w).alloc (Nat.le_refl _) o
  have HBL := Lib.hid hbel
  have sI : (s.length : Int) ≤ 1000000 := by omega
  rw [he]
  clear hbel he f5 f6 f7 f8
  simp only [List.length_nil]
  obtain ⟨E, hE⟩ : ∃ E, Rp.own ⟨k, s, n, 0⟩ = E := ⟨_, rfl⟩
  rw [hE]
  by_cases hk1 : k = 1
  · subst hk1
    obtain ⟨T1, hT1⟩ : ∃ T1, [43] ++ s = T1 := ⟨_, rfl⟩
    have hT1l : T1.length ≤ 1000001 := by rw [← hT1]; simp; omega
    have u1 : (⟨#[43]⟩ : ByteArray) ++ ⟨s.toArray⟩ = ⟨T1.toArray⟩ := by rw [← hT1]; exact str_add [43] s
    have u2 : (⟨T1.toArray⟩ : ByteArray) ++ ⟨#[13, 10]⟩ = ⟨E.toArray⟩ := by rw [show (⟨#[13, 10]⟩ : ByteArray) = ⟨([13, 10] : List UInt8).toArray⟩ from rfl, str_add, ← hT1, ← hE]; rfl
    clear hok hT1 hE
    go_enter Tryz.func67, Tryz.ntmps67
    go_wp2
    go_ret
    exact ⟨rfl, HBL.out _⟩
  by_cases hk2 : k = 2
  · subst hk2
    obtain ⟨T1, hT1⟩ : ∃ T1, [45] ++ s = T1 := ⟨_, rfl⟩
    have hT1l : T1.length ≤ 1000001 := by rw [← hT1]; simp; omega
    have u1 : (⟨#[45]⟩ : ByteArray) ++ ⟨s.toArray⟩ = ⟨T1.toArray⟩ := by rw [← hT1]; exact str_add [45] s
    have u2 : (⟨T1.toArray⟩ : ByteArray) ++ ⟨#[13, 10]⟩ = ⟨E.toArray⟩ := by rw [show (⟨#[13, 10]⟩ : ByteArray) = ⟨([13, 10] : List UInt8).toArray⟩ from rfl, str_add, ← hT1, ← hE]; rfl
    clear hok hT1 hE
    go_enter Tryz.func67, Tryz.ntmps67
    go_wp2
    go_ret
    exact ⟨rfl, HBL.out _⟩
  by_cases hk3 : k = 3
  · subst hk3
    obtain ⟨D, hD⟩ : ∃ D, Dig.dec n = D := ⟨_, rfl⟩
    have hDl : D.length ≤ 20 := by rw [← hD]; exact Rp.dec20 f3 f4
    obtain ⟨T1, hT1⟩ : ∃ T1, [58] ++ D = T1 := ⟨_, rfl⟩
    have hT1l : T1.length ≤ 21 := by rw [← hT1]; simp; omega
    have u1 : (⟨#[58]⟩ : ByteArray) ++ ⟨D.toArray⟩ = ⟨T1.toArray⟩ := by rw [← hT1]; exact str_add [58] D
    have u2 : (⟨T1.toArray⟩ : ByteArray) ++ ⟨#[13, 10]⟩ = ⟨E.toArray⟩ := by rw [show (⟨#[13, 10]⟩ : ByteArray) = ⟨([13, 10] : List UInt8).toArray⟩ from rfl, str_add, ← hT1, ← hE, ← hD]; rfl
    have HDG := Lib.hid (fun W => digits_any n W f3 f4)
    rw [hD] at HDG
    clear hok hT1 hE hD
    go_enter Tryz.func67, Tryz.ntmps67
    go_wp2_with fail
    refine (HDG.out _).mono ?_
    rintro e w2 ⟨rfl, hb2⟩
    have HB2 := Lib.hid ((HBL.out _).trans (hb2.mono (HBL.out _).size))
    clear hb2
    go_wp2
    go_ret
    exact ⟨rfl, HB2.out⟩
  by_cases hk4 : k = 4
  · subst hk4
    obtain ⟨D, hD⟩ : ∃ D, Dig.dec (s.length : Int) = D := ⟨_, rfl⟩
    have hDl : D.length ≤ 20 := by rw [← hD]; exact Rp.dec20 (by omega) (by omega)
    have hEE : [36] ++ D ++ [13, 10] ++ s ++ [13, 10] = E := by rw [← hE, ← hD]; simp [Rp.own, Rp.crlf]
    have r1 := fun W => add_run [36] D (by simp; omega) W
    have r2 := fun W => add_run ([36] ++ D) [13, 10] (by simp; omega) W
    have r3 := fun W => add_run ([36] ++ D ++ [13, 10]) s (by simp; omega) W
    have r4 := fun W => add_run ([36] ++ D ++ [13, 10] ++ s) [13, 10] (by simp; omega) W
    rw [hEE] at r4
    generalize hA : [36] ++ D = T1 at r1 r2 r3 r4
    generalize hB : T1 ++ [13, 10] = T2 at r2 r3 r4
    generalize hC : T2 ++ s = T3 at r3 r4
    have r1' : ∀ W : World, (Op.stringOp .add ⟨#[36]⟩ ⟨D.toArray⟩).run Tryz.prog W = .ok (.string ⟨T1.toArray⟩) W := r1
    have r2' : ∀ W : World, (Op.stringOp .add ⟨T1.toArray⟩ ⟨#[13, 10]⟩).run Tryz.prog W = .ok (.string ⟨T2.toArray⟩) W := r2
    have r4' : ∀ W : World, (Op.stringOp .add ⟨T3.toArray⟩ ⟨#[13, 10]⟩).run Tryz.prog W = .ok (.string ⟨E.toArray⟩) W := r4
    have HDG := Lib.hid (fun W => digits_any (s.length : Int) W (by omega) (by omega))
    rw [hD] at HDG
    obtain ⟨w1, hw1⟩ : ∃ w1, w.alloc (.cells #[.int .i64 4, .string ⟨s.toArray⟩, .int .i64 n, .slice a 0 c] 45) = w1 := ⟨_, rfl⟩
    have hp1 := World.alloc_heap_new w (.cells #[.int .i64 4, .string ⟨s.toArray⟩, .int .i64 n, .slice a 0 c] 45)
    have hb1 := HBL.out (.cells #[.int .i64 4, .string ⟨s.toArray⟩, .int .i64 n, .slice a 0 c] 45)
    rw [hw1] at hp1 hb1
    obtain ⟨p0, p1, p2, p3⟩ := cells_four hp1
    have hz1 : w.heap.size < w1.heap.size := (Array.getElem?_eq_some_iff.1 hp1).1
    have HW1 := Lib.hid hw1
    have HB1 := Lib.hid hb1
    clear hok hE hD hEE r1 r2 r4 hw1 hb1 hp1 hA hB hC
    go_enter Tryz.func67, Tryz.ntmps67
    go_upto_region 1 with (fail)
    rw [show w.alloc (.cells #[.int .i64 4, .string ⟨s.toArray⟩, .int .i64 n, .slice a 0 c] 45) = w1 from HW1.out]
    clear HW1
    go_upto_region 10 with (fail)
    go_region_held3 (fun W' => W'.cell? ⟨w.heap.size, 1, none⟩ = some (.string ⟨s.toArray⟩))
      (first | (with_reducible exact k1) | go_keep)
      ((go_at_call 24; refine (HDG.out _).mono ?_; rintro e w5 ⟨rfl, hb5⟩; have hbw5 : Below w1.heap.size w1 w5 := ((Below.refl w1.heap.size w1).drew).trans hb5; have k1 := (hbw5.cell (p := ⟨w.heap.size, 1, none⟩) hz1).trans p1))
    have HB5 := Lib.hid (HB1.out.trans (hbw5.mono HB1.out.size))
    clear hb5 hbw5
    go_wp2
    go_ret
    exact ⟨rfl, HB5.out⟩
  by_cases hk5 : k = 5
  · subst hk5
    have u2 : (⟨#[36, 45, 49]⟩ : ByteArray) ++ ⟨#[13, 10]⟩ = ⟨E.toArray⟩ := by
      rw [← hE]
      show _ = (⟨([36] ++ Dig.dec (-1) ++ [13, 10]).toArray⟩ : ByteArray)
      rw [show Dig.dec (-1) = [45, 49] by unfold Dig.dec; rw [if_pos (by decide)]; rw [show (-(-1 : Int)).toNat = 1 from rfl, Dig.digs_small (by decide)]; rfl]
      rfl
    clear hok hE
    go_enter Tryz.func67, Tryz.ntmps67
    go_wp2
    go_ret
    exact ⟨by first | rfl | (rw [← u2]; rfl), HBL.out _⟩
  have : Rp.fitsB ⟨k, s, n, ([] : List Rp.R).length⟩ = false := by unfold Rp.fitsB; simp [hk1, hk2, hk3, hk4, hk5, hk6]
  rw [this] at hok
  cases hok
end Go.Proofs.YtbkhnnjjpelfcaaGreatDoor
namespace Go.Proofs.YtbkhnnjjpelfcaaGreatDoor
open Go.RowKit Go.Shelf
attribute [local go_sem] Oper.semAt_some
set_option linter.unusedVariables false
set_option linter.unusedSimpArgs false

theorem encL_take {l : List Rp.R} {q : Nat} (h : q < l.length) : Rp.encL (l.take (q + 1)) = Rp.encL (l.take q) ++ Rp.enc l[q] := by
  have happ : ∀ a b : List Rp.R, Rp.encL (a ++ b) = Rp.encL a ++ Rp.encL b := by
    intro a b
    induction a with
    | nil => simp [Rp.encL]
    | cons x a ih => rw [List.cons_append, Rp.encL, Rp.encL, ih, List.append_assoc]
  rw [List.take_succ_eq_append_getElem h, happ]
  simp [Rp.encL]
theorem encL_le (l : List Rp.R) (q : Nat) : (Rp.encL (l.take q)).length ≤ (Rp.encL l).length := by
  have happ : ∀ a b : List Rp.R, Rp.encL (a ++ b) = Rp.encL a ++ Rp.encL b := by
    intro a b
    induction a with
    | nil => simp [Rp.encL]
    | cons x a ih => rw [List.cons_append, Rp.encL, Rp.encL, ih, List.append_assoc]
  have := congrArg List.length (happ (l.take q) (l.drop q))
  rw [List.take_append_drop, List.length_append] at this
  omega
theorem enc_s_le {k : Int} {s : List UInt8} {n : Int} {l : List Rp.R} (h : Rp.fitsB ⟨k, s, n, l.length⟩ = true) : s.length ≤ (Rp.enc (.mk k s n l)).length := by
  by_cases hs : s = []
  · subst hs; simp
  · have hk : k = 1 ∨ k = 2 ∨ k = 4 := by
      unfold Rp.fitsB at h
      by_cases h1 : k = 1
      · exact .inl h1
      · by_cases h2 : k = 2
        · exact .inr (.inl h2)
        · by_cases h4 : k = 4
          · exact .inr (.inr h4)
          · simp [h1, h2, h4, hs] at h
    rw [Rp.enc]
    rcases hk with rfl | rfl | rfl <;> simp [Rp.own] <;> omega

set_option maxRecDepth 100000 in
set_option maxHeartbeats 8000000 in
theorem put_ref : ∀ (N : Nat) (x : Rp.R) (lev : Nat) (a : Option Addr) (c : Nat) (w : World), (Rp.heads 0 x).length ≤ N → RepA w x (rv x.k x.s x.n a x.l.length c) → (Rp.heads lev x).all Rp.okB = true → (Rp.enc x).length ≤ 900000 →
    Calls Tryz.prog 67 #[rv x.k x.s x.n a x.l.length c] w fun e W => e = .returned (.string ⟨(Rp.enc x).toArray⟩) ∧ Below w.heap.size w W := by
  intro N
  induction N with
  | zero =>
    intro x lev a c w hN
    have := Rp.heads_ne 0 x
    omega
  | succ N ih =>
    intro x lev a c w hN hx hok hel
    have hrec : ∀ j (h : j < x.l.length), (Rp.heads 0 x.l[j]).length ≤ N := fun j h => by have := Rp.heads_lt h; omega
    obtain ⟨k, s, n, l⟩ := x
    simp only [Rp.R.k, Rp.R.s, Rp.R.n, Rp.R.l] at hx hrec ⊢
    obtain ⟨-, hf, hxl⟩ := hx.at
    rw [Rp.heads_all, Bool.and_eq_true] at hok
    obtain ⟨hok1, hok2⟩ := hok
    have hfit : Rp.fitsB ⟨k, s, n, l.length⟩ = true := by
      unfold Rp.okB at hok1
      rw [Bool.and_eq_true] at hok1
      exact hok1.1
    unfold rv
    by_cases hk6 : k = 6
    rotate_left
    · exact put_flat k s n l a c w hf hk6 hfit (by have := enc_s_le hfit; omega)
    subst hk6
    have hsn : s = [] ∧ n = 0 ∧ l.length ≤ 65536 := by
      unfold Rp.fitsB at hfit
      simp at hfit
      exact ⟨hfit.1.1, hfit.1.2, hfit.2⟩
    obtain ⟨rfl, rfl, hm⟩ := hsn
    have he : Rp.enc (.mk 6 [] 0 l) = ([42] ++ Dig.dec (l.length : Int) ++ [13, 10]) ++ Rp.encL l := by rw [Rp.enc]; simp [Rp.own, Rp.crlf]
    rw [he] at hel ⊢
    rw [List.all_eq_true] at hok2
    obtain ⟨f1, f2, f3, f4, f5, f6, f7, f8⟩ := hf
    obtain ⟨D, hD⟩ : ∃ D, Dig.dec (l.length : Int) = D := ⟨_, rfl⟩
    have hDl : D.length ≤ 20 := by rw [← hD]; exact Rp.dec20 (by omega) (by omega)
    have HDG := Lib.hid (fun W => digits_any (l.length : Int) W (by omega) (by omega))
    rw [hD] at HDG hel ⊢
    obtain ⟨T1, hT1⟩ : ∃ T1, [42] ++ D = T1 := ⟨_, rfl⟩
    have u1 : (⟨#[42]⟩ : ByteArray) ++ ⟨D.toArray⟩ = ⟨T1.toArray⟩ := by rw [← hT1]; exact str_add [42] D
    rw [hT1] at hel ⊢
    have hT1l : T1.length ≤ 21 := by rw [← hT1]; simp; omega
    obtain ⟨T, hT⟩ : ∃ T, T1 ++ [13, 10] = T := ⟨_, rfl⟩
    have u2 : (⟨T1.toArray⟩ : ByteArray) ++ ⟨#[13, 10]⟩ = ⟨T.toArray⟩ := by rw [← hT]; exact str_add T1 [13, 10]
    rw [hT] at hel ⊢
    have hTl : T.length ≤ 23 := by rw [← hT]; simp; omega
    rw [List.length_append] at hel
    have HX := Lib.hid hxl
    have HR0 := Lib.hid hrec
    have IH := Lib.hid ih
    have HOK := Lib.hid hok2
    have HEL := Lib.hid hel
    have mI : (l.length : Int) ≤ 65536 := by omega
    have hcv := fun W => sb_conv W T
    obtain ⟨i5, hi5, hi5z, hi5s, hi5b⟩ := info_parts info5
    obtain ⟨w1, hw1⟩ : ∃ w1, w.alloc (.cells #[.int .i64 6, .string ⟨([] : List UInt8).toArray⟩, .int .i64 0, .slice a l.length c] 45) = w1 := ⟨_, rfl⟩
    have hp1 := World.alloc_heap_new w (.cells #[.int .i64 6, .string ⟨([] : List UInt8).toArray⟩, .int .i64 0, .slice a l.length c] 45)
    have hb1 : Below w.heap.size w w1 := by rw [← hw1]; exact (Below.refl _ w).alloc (Nat.le_refl _) _
    rw [hw1] at hp1
    have HW1 := Lib.hid hw1
    have HP1 := Lib.hid hp1
    have HB1 := Lib.hid hb1
    have hz1 : w.heap.size < w1.heap.size := (Array.getElem?_eq_some_iff.1 hp1).1
    obtain ⟨p0, p1, p2, p3⟩ := cells_four hp1
    clear hx hN hxl hrec ih hok1 hok2 hfit he hD hT1 hT hel hw1 hp1 hb1
    go_enter Tryz.func67, Tryz.ntmps67
    go_upto_region 1 with (fail)
    rw [show w.alloc (.cells #[.int .i64 6, .string ⟨([] : List UInt8).toArray⟩, .int .i64 0, .slice a l.length c] 45) = w1 from HW1.out]
    clear HW1
    go_wp2_with fail
    refine (HDG.out w1).mono ?_
    rintro e w2 ⟨rfl, hb2⟩
    have HB2 := Lib.hid (HB1.out.trans (hb2.mono HB1.out.size))
    have HP2 := Lib.hid ((hb2.block _ hz1).trans HP1.out)
    have hz2 : w1.heap.size ≤ w2.heap.size := hb2.size
    clear hb2 p0 p1 p2 p3 HDG
    go_upto_region 14 with (fail)
    obtain ⟨w3, hw3⟩ : ∃ w3, Lib.bytesWorld w2 5 ⟨T.toArray⟩ = w3 := ⟨_, rfl⟩
    have ho3 := own8_new w2 T (by omega)
    have hb3 : Below w2.heap.size w2 w3 := by rw [← hw3]; exact Lib.bytesWorld_below w2 5 ⟨T.toArray⟩
    rw [hw3] at ho3 ⊢
    have HO3 := Lib.hid (ho3.down (base' := w1.heap.size) hz2)
    have HP3 := Lib.hid ((hb3.block _ (by omega)).trans HP2.out)
    have HB3 := Lib.hid (HB2.out.trans (hb3.mono HB2.out.size))
    clear hw3 ho3 hb3 HB2 HP2 hcv u1 u2
    go_wp2_with fail
    go_loopw [4, 5] (fun b i wr => ∃ q : Nat, q ≤ l.length ∧ i = .int .i64 (q : Int) ∧ Hid (Own8 w1.heap.size wr b (T ++ Rp.encL (l.take q))) ∧ Hid (wr.heap[w.heap.size]? = some (.cells #[.int .i64 6, .string ⟨([] : List UInt8).toArray⟩, .int .i64 0, .slice a l.length c] 45 (0, 0))) ∧ Hid (Below w.heap.size w wr) ∧ w1.heap.size ≤ wr.heap.size) (fun _ i _ => l.length - (intOf i).toNat)
    case atStart => exact ⟨0, Nat.zero_le _, rfl, Lib.hid (by rw [List.take_zero, Rp.encL, List.append_nil]; exact HO3.out), HP3, HB3, by have := HO3.out; obtain ⟨g, _, _, h1, h2, _⟩ := this; omega⟩
    case round =>
      obtain ⟨q, hq, rfl, HO, HP, HB, hzr⟩ := hrel
      obtain ⟨p0, p1, p2, p3⟩ := cells_four HP.out
      have q0 : (0 : Int) ≤ (q : Int) := by omega
      have wq1 : IntKind.i64.wrap ((q : Int) + 1) = (q : Int) + 1 := IntWalk.i64_in _ (by omega)
      by_cases hlt : q < l.length
      · have hltI : (q : Int) < (l.length : Int) := by omega
        obtain ⟨bb, off, rfl, hbb, hce⟩ := HX.out.resolve_left (by intro h; rw [h] at hlt; simp at hlt)
        obtain ⟨aj, cj, c0, c1, c2, c3, hrep⟩ := hce q hlt
        replace c0 := (HB.out.cell (p := ⟨bb, off + q * 4, none⟩) hbb).trans c0
        replace c1 := (HB.out.cell (p := ⟨bb, off + q * 4 + 1, none⟩) hbb).trans c1
        replace c2 := (HB.out.cell (p := ⟨bb, off + q * 4 + 2, none⟩) hbb).trans c2
        replace c3 := (HB.out.cell (p := ⟨bb, off + q * 4 + 3, none⟩) hbb).trans c3
        have htk := encL_take hlt
        have hle1 := encL_le l (q + 1)
        have hle0 := encL_le l q
        have hlen1 : (Rp.enc l[q]).length ≤ 900000 := by
          have := congrArg List.length htk
          rw [List.length_append] at this
          have := HEL.out
          omega
        have hcl := IH.out l[q] (lev + 1) aj cj wr (HR0.out q hlt) (RepA.later hrep HB.out) (HOK.out _ (List.getElem_mem hlt)) hlen1
        unfold rv at hcl
        have hlow : (T ++ Rp.encL (l.take q)).length ≤ 1000000 := by rw [List.length_append]; have := HEL.out; omega
        obtain ⟨r, hr⟩ : ∃ r, l[q] = r := ⟨_, rfl⟩
        rw [hr] at c0 c1 c2 c3 hcl htk hlen1
        obtain ⟨P, hP⟩ : ∃ P, T ++ Rp.encL (l.take q) = P := ⟨_, rfl⟩
        have hnx : T ++ Rp.encL (l.take (q + 1)) = P ++ Rp.enc r := by rw [htk, ← hP, List.append_assoc]
        rw [hP] at HO hlow
        obtain ⟨F, hF⟩ : ∃ F, Rp.enc r = F := ⟨_, rfl⟩
        rw [hF] at hcl hnx hlen1
        have HNX := Lib.hid hnx
        have HC := Lib.hid hcl
        have hF9 : F.length ≤ 1000000 := by omega
        clear hrep hcl hce hbb hr hP hF htk hle0 hle1 hnx hlen1
        go_wp2_with fail
        refine HC.out.mono ?_
        rintro e w4 ⟨rfl, hb4⟩
        have HO4 := Lib.hid (HO.out.later hb4)
        have HP4 := Lib.hid ((hb4.block _ (by omega)).trans HP.out)
        have HB4 := Lib.hid (HB.out.trans (hb4.mono HB.out.size))
        have hz4 : w1.heap.size ≤ w4.heap.size := Nat.le_trans hzr hb4.size
        clear hb4 c0 c1 c2 c3 p0 p1 p2 p3
        go_wp2_with (at_builtin; refine wpList_append8_str rfl (.tmp 63) (.tmp 69) rfl rfl HO4.out hz4 hlow F rfl hF9 i5 hi5 hi5z hi5s hi5b ?_)
        intro v5 w5 ho5 hb5
        rw [← HNX.out] at ho5
        have HO5 := Lib.hid ho5
        have HP5 := Lib.hid ((hb5.block _ hz1).trans HP4.out)
        have HB5 := Lib.hid (HB4.out.trans (hb5.mono (by omega)))
        have hz5 : w1.heap.size ≤ w5.heap.size := Nat.le_trans hz4 hb5.size
        clear ho5 hb5
        go_wp2_with fail
        go_roundw
        case rel => exact ⟨q + 1, by omega, by go_num, HO5, HP5, HB5, hz5⟩
        case measure => simp [intOf]; omega
      · obtain rfl : q = l.length := by omega
        have hnl : ¬ (l.length : Int) < (l.length : Int) := by omega
        have ho := HO.out
        rw [List.take_length] at ho
        have htx := ho.text
        obtain ⟨P, hP⟩ : ∃ P, T ++ Rp.encL l = P := ⟨_, rfl⟩
        rw [hP] at htx
        have HPP := Lib.hid hP
        clear ho hP HO HX
        go_wp2
        go_ret
        exact ⟨by rw [HPP.out]; rfl, HB.out⟩

set_option maxRecDepth 100000 in
set_option maxHeartbeats 4000000 in
theorem putReply_any (x : Rp.R) (a : Option Addr) (c : Nat) (w : World) (hx : RepA w x (rv x.k x.s x.n a x.l.length c)) (hel : Rp.mayB x = true → (Rp.enc x).length ≤ 900000) :
    Calls Tryz.prog 44 #[rv x.k x.s x.n a x.l.length c] w fun e W => e = .returned (.string ⟨(Rp.putB x).toArray⟩) ∧ Below w.heap.size w W := by
  obtain ⟨w1, hw1⟩ : ∃ w1, w.alloc (.cells #[.int .i64 x.k, .string ⟨x.s.toArray⟩, .int .i64 x.n, .slice a x.l.length c] 45) = w1 := ⟨_, rfl⟩
  have hp1 := World.alloc_heap_new w (.cells #[.int .i64 x.k, .string ⟨x.s.toArray⟩, .int .i64 x.n, .slice a x.l.length c] 45)
  have hb1 : Below w.heap.size w w1 := by rw [← hw1]; exact (Below.refl _ w).alloc (Nat.le_refl _) _
  rw [hw1] at hp1
  have hz1 : w.heap.size < w1.heap.size := (Array.getElem?_eq_some_iff.1 hp1).1
  have hcl := mayReply_any x a c w1 (RepA.later hx hb1)
  have hpt := fun W (hb : Below w1.heap.size w1 W) (hm : Rp.mayB x = true) => put_ref _ x 0 a c W (Nat.le_refl _) (RepA.later (RepA.later hx hb1) hb) hm (hel hm)
  unfold rv at hcl hpt ⊢
  have hput : Rp.putB x = if Rp.mayB x then Rp.enc x else [] := rfl
  rw [hput]
  generalize Rp.mayB x = m at hcl hpt ⊢
  obtain ⟨p0, p1, p2, p3⟩ := cells_four hp1
  have HP1 := Lib.hid hp1
  have HC := Lib.hid hcl
  have HPT := Lib.hid hpt
  have HB := Lib.hid hb1
  have HW := Lib.hid hw1
  clear hcl hb1 hw1 hp1 hx hel hpt hput
  go_enter Tryz.func44, Tryz.ntmps44
  go_upto_region 1 with (fail)
  rw [show w.alloc (.cells #[.int .i64 x.k, .string ⟨x.s.toArray⟩, .int .i64 x.n, .slice a x.l.length c] 45) = w1 from HW.out]
  go_wp2_with fail
  refine HC.out.mono ?_
  rintro e w2 ⟨rfl, hb2⟩
  have HB2 := Lib.hid (HB.out.trans (hb2.mono HB.out.size))
  have HB12 := Lib.hid hb2
  have hp2 := (hb2.block _ hz1).trans HP1.out
  clear hb2 p0 p1 p2 p3
  obtain ⟨p0, p1, p2, p3⟩ := cells_four hp2
  clear hp2
  cases m with
  | false =>
    go_wp2_with fail
    go_ret
    exact ⟨rfl, HB2.out⟩
  | true =>
    go_wp2_with fail
    refine (HPT.out _ HB12.out (by trivial)).mono ?_
    rintro e w3 ⟨rfl, hb3⟩
    have HB3 := Lib.hid (HB2.out.trans (hb3.mono HB2.out.size))
    clear hb3
    go_wp2_with fail
    go_ret
    exact ⟨rfl, HB3.out⟩
end Go.Proofs.YtbkhnnjjpelfcaaGreatDoor
