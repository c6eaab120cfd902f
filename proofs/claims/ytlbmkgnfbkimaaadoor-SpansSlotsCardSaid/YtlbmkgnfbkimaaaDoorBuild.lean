/- The contracts of a strings.Builder that the call has made itself: WriteByte, WriteString, with the blocks that they may turn. -/
import Derived.Test.YtlbmkgnfbkimaaaDoorCollect
import Derived.Test.YtlbmkgnfbkimaaaDoorShelf
import Derived.Lib.Strings
import Derived.Lib.Slices
import Derived.Lib.Walk
import Derived.Lib.Builder
import Derived.Lib.AppendStr
import Derived.Lib.UnsafeStr
import Derived.Laws.Externs
import Derived.Maps.AppendAt
namespace Go.Proofs.YtlbmkgnfbkimaaaDoor
open Go.RowKit Go.Shelf

/-- a builder in block C that holds these bytes, its buffer v in a block from base on. -/
def Bld (base C : Nat) (bs : List UInt8) (v : Value) (W : World) : Prop :=
  C < base ∧ (∃ p, (p = .pointer none ∨ p = .pointer (some ⟨C, 0, none⟩)) ∧ W.heap[C]? = some (.cells #[p, v] 56 (0, 0))) ∧ W.ownsRow base 5 1 v bs.length (Lib.byteCells bs)

/-- what a write leaves of a builder whose buffer was v. -/
def BOut (base C : Nat) (bs : List UInt8) (v : Value) (W W' : World) : Prop :=
  ∃ v', Bld base C bs v' W' ∧ Keeps (fun k => k ≠ C ∧ some k ≠ v.ownBlock) W W' ∧ (v'.ownBlock = v.ownBlock ∨ ∃ g, v'.ownBlock = some g ∧ W.heap.size ≤ g)

theorem size56 : (Tryd.prog.info? 56).map (·.size) = some 2 := by kernel_rfl
theorem lies56 : liesAt Tryd.prog Tryd.prog.depth 56 (2 / Tryd.prog.cellsOf 56) 0 56 1 = true := by kernel_rfl
theorem info5 : (Tryd.prog.info? 5).map (fun i => (i.zero, i.size, i.bytes)) = some (some (.int .u8 0), 1, 1) := by kernel_rfl

set_option maxHeartbeats 1000000 in
set_option maxRecDepth 100000 in
theorem copyCheck_used (b : Nat) (w : World) (h0 : w.cell? ⟨b, 0, none⟩ = some (.pointer (some ⟨b, 0, none⟩))) :
    Calls Tryd.prog 52 #[.pointer (some ⟨b, 0, none⟩)] w fun e w' => e = .returned (.tuple #[]) ∧ w' = w := by
  obtain ⟨j, hj, _⟩ := Option.map_eq_some_iff.1 size56
  go_enter Tryd.func52, Tryd.ntmps52
  go_wp2
  rw [Lib.run_neq_ptr_same w _ Tryd.underlying53 hj]
  go_wp2
  go_end0
  exact ⟨rfl, rfl⟩

set_option maxHeartbeats 1000000 in
set_option maxRecDepth 100000 in
theorem copyCheck_fresh (b : Nat) (w : World) (h0 : w.cell? ⟨b, 0, none⟩ = some (.pointer none)) (hsh : w.shape? b = some (56, 2)) (hfz : w.frozen? ⟨b, 0, none⟩ = false) :
    Calls Tryd.prog 52 #[.pointer (some ⟨b, 0, none⟩)] w fun e w' => e = .returned (.tuple #[]) ∧ w' = w.setCell ⟨b, 0, none⟩ (.pointer (some ⟨b, 0, none⟩)) := by
  obtain ⟨j, hj, hjs⟩ := Option.map_eq_some_iff.1 size56
  go_enter Tryd.func52, Tryd.ntmps52
  go_wp2
  rw [Lib.run_to_unsafe w ⟨b, 0, none⟩ Tryd.underlying53 Tryd.underlying92 hj (by rw [hjs]; decide) hsh (Nat.zero_lt_succ 1)]
  simp only [Result.andThen]
  rw [Oper.upon_value]
  go_wp2
  rw [run_callFunc_extern Tryd.func65 (by kernel_rfl) (by kernel_rfl) (by kernel_rfl) (e := Extern.AbiNoEscape.same) (by kernel_rfl)]
  rw [Lib.run_noEscape]
  simp only [Result.andThen]
  rw [Oper.upon_value]
  go_wp2
  rw [Lib.run_from_unsafe w ⟨b, 0, none⟩ Tryd.underlying92 Tryd.underlying53 hj hsh lies56]
  simp only [Result.andThen]
  rw [Oper.upon_value]
  go_wp2
  go_end0
  exact ⟨rfl, rfl⟩

/-- behind copyCheck the builder is used. -/
theorem copyCheck_any (base C : Nat) (bs : List UInt8) (v : Value) (W : World) (h : Bld base C bs v W) :
    Calls Tryd.prog 52 #[.pointer (some ⟨C, 0, none⟩)] W fun e W' => e = .returned (.tuple #[]) ∧ W'.heap[C]? = some (.cells #[.pointer (some ⟨C, 0, none⟩), v] 56 (0, 0)) ∧ W'.ownsRow base 5 1 v bs.length (Lib.byteCells bs) ∧ W'.heap.size = W.heap.size ∧ Keeps (fun k => k ≠ C) W W' := by
  obtain ⟨hC, ⟨p, hp, hk⟩, hrow⟩ := h
  obtain ⟨c0, c1, f0, f1⟩ := cells_two hk
  rcases hp with rfl | rfl
  · refine (copyCheck_fresh C W c0 (by simp [World.shape?, hk]) f0).mono ?_
    rintro e W' ⟨rfl, rfl⟩
    have hK : Keeps (fun k => k ≠ C) W (W.setCell ⟨C, 0, none⟩ (.pointer (some ⟨C, 0, none⟩))) := (Keeps.refl _ W).setCell (.inr (by simp)) _
    refine ⟨rfl, ?_, owns_kept hrow hK (fun g hg => by have := (hrow.lt g hg).1; omega), by simp, hK⟩
    simp [World.setCell, Array.getElem?_modify, hk]
  · refine (copyCheck_used C W c0).mono ?_
    rintro e W' ⟨rfl, rfl⟩
    exact ⟨rfl, hk, hrow, rfl, Keeps.refl _ _⟩

/-- a write's end: the new buffer is laid into the builder. -/
theorem bld_end {base C : Nat} {bs bs' : List UInt8} {v v' : Value} {W W1 W2 : World} {nb : Nat} (hC : C < base) (hk1 : W1.heap[C]? = some (.cells #[.pointer (some ⟨C, 0, none⟩), v] 56 (0, 0))) (hrow : W1.ownsRow base 5 1 v bs.length (Lib.byteCells bs))
    (hs1 : W1.heap.size = W.heap.size) (hK : Keeps (fun k => k ≠ C) W W1) (hnb : nb = bs'.length) (h2 : W2.ownsRow base 5 1 v' nb (Lib.byteCells bs')) (hg : Keeps (fun k => some k ≠ v.ownBlock) W1 W2)
    (hat : v'.ownBlock = v.ownBlock ∨ ∃ g, v'.ownBlock = some g ∧ W1.heap.size ≤ g) : BOut base C bs' v W (W2.setCell ⟨C, 1, none⟩ v') := by
  subst hnb
  have hne : some C ≠ v.ownBlock := fun e => by have := (hrow.lt C e.symm).1; omega
  have hk2 := hg.heap hk1 hne
  refine ⟨v', ⟨hC, ⟨_, .inr rfl, heap_snd hk2 _⟩, ?_⟩, ?_, by rw [← hs1]; exact hat⟩
  · exact ownsRow_setCell_below h2 (by exact hC) _
  · exact ((hK.mono fun k _ h => h.1).trans (hg.mono fun k _ h => h.2)).setCell (.inr (by simp)) _

set_option maxHeartbeats 1000000 in
set_option maxRecDepth 100000 in
theorem writeByte_any (base C : Nat) (bs : List UInt8) (c : UInt8) (v : Value) (W : World) (h : Bld base C bs v W) (hlen : bs.length ≤ 1000000000) (hbase : base ≤ W.heap.size) :
    Calls Tryd.prog 36 #[.pointer (some ⟨C, 0, none⟩), .int .u8 c.toNat] W fun e W' => e = .returned .nilIface ∧ BOut base C (bs ++ [c]) v W W' := by
  obtain ⟨i0, hi, hz0, hz1, hz2⟩ := info_parts info5
  have hC := h.1
  have hcc := copyCheck_any base C bs v W h
  clear h
  go_enter Tryd.func36, Tryd.ntmps36
  go_wp2_with (go_at_call 52; refine hcc.mono ?_)
  rintro e W1 ⟨rfl, hk1, hrow, hs1, hK⟩
  obtain ⟨c0, c1, f0, f1⟩ := cells_two hk1
  have HK := Lib.hid hK
  have HS1 := Lib.hid hs1
  clear hK hs1
  go_wp2_with (at_builtin; refine wpList_append_own_at _ rfl _ _ 54 rfl base 5 i0 (.int .u8 0) 1 1 Tryd.underlying54 hi hz0 hz1 hz2 rfl (by decide) _ _ _ rfl (hrow.alloc _) ⟨W1.heap.size, 0, none⟩ 1 1 [.int .u8 c.toNat] rfl rfl ?c1 ?c2 ?c3 ?c4 ?c5 ?_)
  case c1 => exact cell_one_new _ _ _
  case c2 => intro u hu; simp at hu; subst hu; rfl
  case c3 => unfold maxLen; omega
  case c4 => omega
  case c5 => have := HS1.out; simp; omega
  intro v' W2 hown' hgrow _ hat
  obtain ⟨g', cap', rfl⟩ := ownsRow_succ hown'
  have hg2 : Keeps (fun k => some k ≠ v.ownBlock) W1 W2 := ((Keeps.refl _ W1).alloc _).trans (Keeps.of_grown hgrow fun r e h => h e.symm)
  have hat' : (Value.slice (some ⟨g', 0, none⟩) (bs.length + 1) cap').ownBlock = v.ownBlock ∨ ∃ g, (Value.slice (some ⟨g', 0, none⟩) (bs.length + 1) cap').ownBlock = some g ∧ W1.heap.size ≤ g := by
    rcases hat with h | h
    · exact .inl h
    · exact .inr ⟨_, h, by simp⟩
  have HE := Lib.hid (bld_end (bs' := bs ++ [c]) (nb := bs.length + 1) hC hk1 hrow HS1.out HK.out (by simp) (by simpa [Lib.byteCells] using hown') hg2 hat')
  have hk2 := hg2.heap hk1 (fun e => by have := (hrow.lt C e.symm).1; omega)
  obtain ⟨d0, d1, e0, e1⟩ := cells_two hk2
  clear hg2 hat hat' hown' hgrow hk1 hk2 hrow c0 c1 f0 f1
  go_wp2
  go_ret
  exact ⟨rfl, HE.out⟩

/-- an append of a string's bytes, and where the new buffer lies. -/
theorem run_append_str_at (w : World) (base t u ty e : Nat) (i : TypeInfo) (ht : Tryd.prog.underlying t = some (.slice e)) (hu : Tryd.prog.underlying u = some .string) (hi : Tryd.prog.info? e = some i) (hz : i.zero = some (.int .u8 0))
    (hsize : i.size = 1) (hby : i.bytes = 1) (v : Value) (n : Nat) (xs : List Value) (hown : w.ownsRow base e 1 v n xs) (s : ByteArray) (h63 : n + s.size ≤ maxLen) (hbytes : n + s.size ≤ 140737488355328) (hbase : base ≤ w.heap.size) :
    ∃ v' w', (Builtin.append_ #[t, u] ty #[v, .string s]).run Tryd.prog w = .ok v' w' ∧ w'.ownsRow base e 1 v' (n + s.size) (xs ++ Lib.strCells s) ∧ w.grownBy w' v.ownBlock ∧ (v'.ownBlock = v.ownBlock ∨ ∃ g, v'.ownBlock = some g ∧ w.heap.size ≤ g) := by
  obtain ⟨v', w', hr, h1, h2, h3⟩ := Lib.run_append_own_string (P := Tryd.prog) w base t u ty e i ht hu hi hz hsize hby v n xs hown s h63 hbytes hbase
  refine ⟨v', w', hr, h1, h2, ?_⟩
  have hxl : xs.length = n := by simpa using hown.1
  have h63' : n + s.size ≤ 9223372036854775807 := by unfold maxLen at h63; omega
  rcases hown.2 with ⟨rfl, rfl⟩ | ⟨g, cap, cur, rfl, hbg, hg, hnc, hcm, hcs, htake⟩
  · by_cases hm : s.size = 0
    · exact .inl (by rw [h3.2 ⟨rfl, hm⟩])
    · have hr2 := run_append_nil_string (P := Tryd.prog) w t u ty e i (.int .u8 0) ht hu hi hz s (by omega) (by omega) (by rw [hby]; omega)
      rw [hr2] at hr
      injection hr with hv _
      subst hv
      exact .inr ⟨_, rfl, Nat.le_refl _⟩
  · by_cases hroom : n + s.size ≤ cap
    · have hcs' : cur.size = cap := by simpa using hcs
      have hr2 := Lib.run_append_room_string (P := Tryd.prog) w t u ty e i ht hu hi hsize g n cap cur hg s hroom (by omega)
      rw [hr2] at hr
      injection hr with hv _
      subst hv
      exact .inl rfl
    · have holds : ∀ j u, xs[j]? = some u → w.cell? ((⟨g, 0, none⟩ : Addr).add j) = some u := hown.cells (g := g) rfl
      have hr2 := Lib.run_append_grow_string (P := Tryd.prog) w t u ty e i (.int .u8 0) ht hu hi hz ⟨g, 0, none⟩ n cap xs (by rw [hsize]; simpa using hxl) holds s (by omega) (by omega) (by rw [hby]; exact growslice_fits (by omega) (by omega))
      rw [hr2] at hr
      injection hr with hv _
      subst hv
      exact .inr ⟨_, rfl, Nat.le_refl _⟩

theorem wpList_append_str_at {w : World} {ops : Array Oper} {rest : List Oper} {o : Oper} {a : Act} {Q : Exit → Act → World → Prop} (hgd : o.guard = none) (sl x : Operand) (t u : TypeId)
    (ho : o.op = .call { callee := .builtin .append, args := #[sl, x], argTypes := #[t, u] })
    (base : Nat) (e : TypeId) (i : TypeInfo) (ht : Tryd.prog.underlying t = some (.slice e)) (hu : Tryd.prog.underlying u = some .string) (hi : Tryd.prog.info? e = some i) (hz : i.zero = some (.int .u8 0))
    (hsize : i.size = 1) (hby : i.bytes = 1) (v : Value) (n : Nat) (xs : List Value) (hs : a.eval sl = v) (hown : w.ownsRow base e 1 v n xs) (s : ByteArray) (hx : a.eval x = .string s)
    (h63 : n + s.size ≤ maxLen) (hbytes : n + s.size ≤ 140737488355328) (hbase : base ≤ w.heap.size)
    (h : ∀ v' w', w'.ownsRow base e 1 v' (n + s.size) (xs ++ Lib.strCells s) → w.grownBy w' v.ownBlock → (v'.ownBlock = v.ownBlock ∨ ∃ g, v'.ownBlock = some g ∧ w.heap.size ≤ g) → wpList Tryd.prog ops Q rest (a.put o.dst v') w') : wpList Tryd.prog ops Q (o :: rest) a w := by
  refine wpList_plain hgd fun K hK => ?_
  obtain ⟨v', w', hr, h2, h3, h4⟩ := run_append_str_at w base t u o.type e i ht hu hi hz hsize hby v n xs hown s h63 hbytes hbase
  unfold Oper.wp execOp
  simp only [ho, resolve, invoke, builtin, Sem.run_bind, Sem.run_pure, Result.andThen_ok, List.map_toArray, List.map_cons, List.map_nil, hs, hx, hr]
  exact hK _ _ (h v' w' h2 h3 h4)

set_option maxHeartbeats 1000000 in
set_option maxRecDepth 100000 in
theorem writeString_any (base C : Nat) (bs ts : List UInt8) (hts : ts ≠ []) (v : Value) (W : World) (h : Bld base C bs v W) (hlen : bs.length ≤ 1000000000) (htl : ts.length ≤ 1000000000) (hbase : base ≤ W.heap.size) :
    Calls Tryd.prog 37 #[.pointer (some ⟨C, 0, none⟩), .string ⟨ts.toArray⟩] W fun e W' => (∃ r, e = .returned r) ∧ BOut base C (bs ++ ts) v W W' := by
  obtain ⟨i0, hi, hz0, hz1, hz2⟩ := info_parts info5
  have hC := h.1
  have hcc := copyCheck_any base C bs v W h
  have hsz : (⟨ts.toArray⟩ : ByteArray).size = ts.length := by show ts.toArray.size = _; simp
  have HT0 : 0 < ts.length := List.length_pos_iff.2 hts
  clear h hts
  go_enter Tryd.func37, Tryd.ntmps37
  go_wp2_with (go_at_call 52; refine hcc.mono ?_)
  rintro e W1 ⟨rfl, hk1, hrow, hs1, hK⟩
  obtain ⟨c0, c1, f0, f1⟩ := cells_two hk1
  have HK := Lib.hid hK
  have HS1 := Lib.hid hs1
  have HSZ := Lib.hid hsz
  clear hK hs1 hsz
  go_wp2_with (at_builtin; refine wpList_append_str_at rfl (.tmp 12) (.tmp 13) 54 9 rfl base 5 i0 Tryd.underlying54 Tryd.underlying9 hi hz0 hz1 hz2 _ _ _ rfl hrow ⟨ts.toArray⟩ rfl ?c3 ?c4 ?c5 ?_)
  case c3 => rw [HSZ.out]; unfold maxLen; omega
  case c4 => rw [HSZ.out]; omega
  case c5 => rw [HS1.out]; exact hbase
  intro v' W2 hown' hgrow hat
  obtain ⟨g', cap', rfl⟩ : ∃ g cap, v' = .slice (some ⟨g, 0, none⟩) (bs.length + ts.length) cap := by
    rcases hown'.2 with ⟨_, h0⟩ | ⟨g, cap, _, rfl, _⟩
    · omega
    · exact ⟨g, cap, rfl⟩
  have hg2 : Keeps (fun k => some k ≠ v.ownBlock) W1 W2 := Keeps.of_grown hgrow fun r e h => h e.symm
  have HE := Lib.hid (bld_end (bs' := bs ++ ts) (nb := bs.length + ts.length) hC hk1 hrow HS1.out HK.out (by simp) (by simpa [Lib.byteCells, Lib.strCells] using hown') hg2 hat)
  have hk2 := hg2.heap hk1 (fun e => by have := (hrow.lt C e.symm).1; omega)
  obtain ⟨d0, d1, e0, e1⟩ := cells_two hk2
  clear hg2 hat hown' hgrow hk1 hk2 hrow c0 c1 f0 f1
  go_wp2
  go_ret2
  exact ⟨⟨_, rfl⟩, HE.out⟩

/-- Len and String of such a builder. -/
theorem bld_is {base C : Nat} {bs : List UInt8} {v : Value} {W : World} (h : Bld base C bs v W) : Lib.IsBuilder 56 5 C C (Lib.byteCells bs) W := by
  obtain ⟨hC, ⟨p, hp, hk⟩, hrow⟩ := h
  have h1 : W.ownsRow C 5 1 v (Lib.byteCells bs).length (Lib.byteCells bs) := by rw [Lib.byteCells_length]; exact owns_base hrow (by omega)
  have h2 : v.ownBlock ≠ some C := fun e => by have := (hrow.lt C e).1; omega
  rcases hp with rfl | rfl
  · exact .inl ⟨Nat.le_refl _, v, hk, h1, h2⟩
  · exact .inr ⟨Nat.le_refl _, v, hk, h1, h2⟩

theorem bldLen_any (base C : Nat) (bs : List UInt8) (v : Value) (W : World) (h : Bld base C bs v W) :
    Calls Tryd.prog 35 #[.pointer (some ⟨C, 0, none⟩)] W fun e W' => e = .returned (.int .i64 bs.length) ∧ W = W' :=
  (Tryd.Builder_Len C C _ W (bld_is h)).mono fun _ _ ⟨he, hw⟩ => ⟨by rw [he, Lib.byteCells_length], hw.symm⟩

theorem bldString_any (base C : Nat) (bs : List UInt8) (v : Value) (W : World) (h : Bld base C bs v W) (hCW : C ≤ W.heap.size) :
    Calls Tryd.prog 39 #[.pointer (some ⟨C, 0, none⟩)] W fun e W' => e = .returned (.string ⟨bs.toArray⟩) ∧ Below C W W' ∧ Lib.OthersKept 5 (some C) W W' :=
  (Tryd.Builder_String_any_k C C bs W (Lib.IsBuilderF.of (bld_is h)) hCW).mono fun _ _ ⟨he, _, hb, ho⟩ => ⟨he, hb, ho⟩

end Go.Proofs.YtlbmkgnfbkimaaaDoor
