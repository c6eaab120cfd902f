/- The contract of the reference's Put. -/
import Derived.Test.YtdhcgclchdnmfaaDoorTxRefAdd
import Derived.Test.YtdhcgclchdnmfaaDoorTxPlain
import Derived.Test.YtdhcgclchdnmfaaDoorRow8
import Derived.Lib.AtoiErrMem
namespace Go.Proofs.YtdhcgclchdnmfaaDoor
open Go.RowKit Go.Shelf
set_option linter.unusedVariables false
set_option linter.unusedSimpArgs false

theorem info8 : ∃ i, Tryd.prog.info? 5 = some i ∧ i.zero = some (.int .u8 0) ∧ i.size = 1 ∧ i.bytes = 1 := by
  have h : (Tryd.prog.info? 5).map (fun i => (i.zero, i.size, i.bytes)) = some (some (.int .u8 0), 1, 1) := by kernel_rfl
  cases hq : Tryd.prog.info? 5 with
  | none => rw [hq] at h; cases h
  | some i =>
    rw [hq] at h
    simp only [Option.map_some, Option.some.injEq, Prod.mk.injEq] at h
    exact ⟨i, rfl, h⟩

/-- the zero bytes that were put behind s are just those of the gap. -/
theorem put_over {s v : List UInt8} {m k : Nat} (h1 : k + v.length ≤ s.length + m) (h2 : m = 0 ∨ s.length + m ≤ k + v.length) : over8 (s ++ List.replicate m 0) k v = Tx.putB s k v := by
  unfold over8 Tx.putB
  rw [List.take_append, List.take_append, List.drop_append, List.take_replicate, List.take_replicate, List.drop_replicate, Nat.min_eq_left (show k - s.length ≤ m from by omega), Nat.min_self, show m - (k + v.length - s.length) = 0 from by omega]
  simp

set_option maxRecDepth 100000 in
set_option maxHeartbeats 4000000 in
theorem refPut_no (s : List UInt8) (a : Int) (v : List UInt8) (w : World) (hl : s.length ≤ 1000000) (hv : v.length ≤ 1000000) (ha0 : -9223372036854775808 ≤ a) (ha1 : a ≤ 9223372036854775807) (hno : Tx.putOk a v = false) :
    Calls Tryd.prog 10 #[.string ⟨s.toArray⟩, .int .i64 a, .string ⟨v.toArray⟩] w (SaidOut (Tx.putS s a v) w) := by
  have HR := Lib.hid (show Tx.putS s a v = ([], false) by unfold Tx.putS; rw [if_neg (by rw [hno]; decide)])
  have hno2 : a < 0 ∨ 300 < a ∨ (a ≤ 300 ∧ 0 ≤ a ∧ 300 < a + v.length) := by
    simp only [Tx.putOk, Bool.and_eq_false_iff, decide_eq_false_iff_not] at hno
    omega
  clear hno
  obtain ⟨W1, hW1⟩ : ∃ W1, w.alloc (.cells #[.string ⟨#[]⟩, .bool false] 31) = W1 := ⟨_, rfl⟩
  have hz : Box2 W1 w.heap.size 31 (.string ⟨#[]⟩) (.bool false) := by rw [← hW1]; exact Box2.new w _ _ _
  have hb1 : Below w.heap.size w W1 := by rw [← hW1]; exact (Below.refl _ w).alloc (Nat.le_refl _) _
  obtain ⟨z0, z1, g0, g1⟩ := hz.at
  have HZ := Lib.hid hz
  have HB1 := Lib.hid hb1
  have HW1 := Lib.hid hW1
  clear hz hb1 hW1
  have HST := Lib.hid (HZ.out.store (.string ⟨#[]⟩) (.bool false))
  go_enter Tryd.func10, Tryd.ntmps10
  go_upto_region 1 with (fail)
  rw [show w.alloc (.cells #[.string ⟨#[]⟩, .bool false] 31) = W1 from HW1.out]
  clear HW1
  rcases hno2 with h | h | ⟨h, h1, h2⟩
  · go_wp2_with fail
    obtain ⟨we, hwe⟩ : ∃ we, (W1.setCell ⟨w.heap.size, 0, none⟩ (.string ⟨#[]⟩)).setCell ⟨w.heap.size, 1, none⟩ (.bool false) = we := ⟨_, rfl⟩
    have hbz : Box2 we w.heap.size 31 (.string ⟨#[]⟩) (.bool false) := hwe ▸ HST.out
    have hbl : Below w.heap.size w we := by rw [← hwe]; exact (HB1.out.setCell (p := ⟨w.heap.size, 0, none⟩) (Nat.le_refl _) _).setCell (p := ⟨w.heap.size, 1, none⟩) (Nat.le_refl _) _
    show bodyPost _ _ _ .ret _ ((W1.setCell ⟨w.heap.size, 0, none⟩ (.string ⟨#[]⟩)).setCell ⟨w.heap.size, 1, none⟩ (.bool false))
    rw [hwe]
    exact bodyPost_ret (results_cellT rfl rfl (loadSaid hbz)) rfl ⟨by rw [HR.out], hbl⟩
  · have h0 : 0 ≤ a := by omega
    go_wp2_with fail
    obtain ⟨we, hwe⟩ : ∃ we, (W1.setCell ⟨w.heap.size, 0, none⟩ (.string ⟨#[]⟩)).setCell ⟨w.heap.size, 1, none⟩ (.bool false) = we := ⟨_, rfl⟩
    have hbz : Box2 we w.heap.size 31 (.string ⟨#[]⟩) (.bool false) := hwe ▸ HST.out
    have hbl : Below w.heap.size w we := by rw [← hwe]; exact (HB1.out.setCell (p := ⟨w.heap.size, 0, none⟩) (Nat.le_refl _) _).setCell (p := ⟨w.heap.size, 1, none⟩) (Nat.le_refl _) _
    show bodyPost _ _ _ .ret _ ((W1.setCell ⟨w.heap.size, 0, none⟩ (.string ⟨#[]⟩)).setCell ⟨w.heap.size, 1, none⟩ (.bool false))
    rw [hwe]
    exact bodyPost_ret (results_cellT rfl rfl (loadSaid hbz)) rfl ⟨by rw [HR.out], hbl⟩
  · have hwr : IntKind.i64.wrap (a + (v.length : Int)) = a + v.length := by rw [IntKind.wrap_i64]; omega
    go_wp2_with fail
    obtain ⟨we, hwe⟩ : ∃ we, (W1.setCell ⟨w.heap.size, 0, none⟩ (.string ⟨#[]⟩)).setCell ⟨w.heap.size, 1, none⟩ (.bool false) = we := ⟨_, rfl⟩
    have hbz : Box2 we w.heap.size 31 (.string ⟨#[]⟩) (.bool false) := hwe ▸ HST.out
    have hbl : Below w.heap.size w we := by rw [← hwe]; exact (HB1.out.setCell (p := ⟨w.heap.size, 0, none⟩) (Nat.le_refl _) _).setCell (p := ⟨w.heap.size, 1, none⟩) (Nat.le_refl _) _
    show bodyPost _ _ _ .ret _ ((W1.setCell ⟨w.heap.size, 0, none⟩ (.string ⟨#[]⟩)).setCell ⟨w.heap.size, 1, none⟩ (.bool false))
    rw [hwe]
    exact bodyPost_ret (results_cellT rfl rfl (loadSaid hbz)) rfl ⟨by rw [HR.out], hbl⟩

set_option maxRecDepth 100000 in
set_option maxHeartbeats 4000000 in
theorem refPut_nil (s : List UInt8) (a : Int) (w : World) (hl : s.length ≤ 1000000) (ha0 : -9223372036854775808 ≤ a) (ha1 : a ≤ 9223372036854775807) (hok : Tx.putOk a [] = true) :
    Calls Tryd.prog 10 #[.string ⟨s.toArray⟩, .int .i64 a, .string ⟨[].toArray⟩] w (SaidOut (Tx.putS s a []) w) := by
  have HR := Lib.hid (show Tx.putS s a [] = (s, true) by unfold Tx.putS; rw [if_pos hok, if_pos rfl])
  have hok2 : 0 ≤ a ∧ a ≤ 300 := by
    simp only [Tx.putOk, Bool.and_eq_true, decide_eq_true_eq, List.length_nil] at hok
    omega
  obtain ⟨h0, h1⟩ := hok2
  have hwr : IntKind.i64.wrap a = a := by rw [IntKind.wrap_i64]; omega
  clear hok
  obtain ⟨W1, hW1⟩ : ∃ W1, w.alloc (.cells #[.string ⟨#[]⟩, .bool false] 31) = W1 := ⟨_, rfl⟩
  have hz : Box2 W1 w.heap.size 31 (.string ⟨#[]⟩) (.bool false) := by rw [← hW1]; exact Box2.new w _ _ _
  have hb1 : Below w.heap.size w W1 := by rw [← hW1]; exact (Below.refl _ w).alloc (Nat.le_refl _) _
  obtain ⟨z0, z1, g0, g1⟩ := hz.at
  have HZ := Lib.hid hz
  have HB1 := Lib.hid hb1
  have HW1 := Lib.hid hW1
  clear hz hb1 hW1
  have HST := Lib.hid (HZ.out.store (.string ⟨s.toArray⟩) (.bool true))
  go_enter Tryd.func10, Tryd.ntmps10
  go_upto_region 1 with (fail)
  rw [show w.alloc (.cells #[.string ⟨#[]⟩, .bool false] 31) = W1 from HW1.out]
  clear HW1
  go_wp2_with fail
  obtain ⟨we, hwe⟩ : ∃ we, (W1.setCell ⟨w.heap.size, 0, none⟩ (.string ⟨s.toArray⟩)).setCell ⟨w.heap.size, 1, none⟩ (.bool true) = we := ⟨_, rfl⟩
  have hbz : Box2 we w.heap.size 31 (.string ⟨s.toArray⟩) (.bool true) := hwe ▸ HST.out
  have hbl : Below w.heap.size w we := by rw [← hwe]; exact (HB1.out.setCell (p := ⟨w.heap.size, 0, none⟩) (Nat.le_refl _) _).setCell (p := ⟨w.heap.size, 1, none⟩) (Nat.le_refl _) _
  show bodyPost _ _ _ .ret _ ((W1.setCell ⟨w.heap.size, 0, none⟩ (.string ⟨s.toArray⟩)).setCell ⟨w.heap.size, 1, none⟩ (.bool true))
  rw [hwe]
  exact bodyPost_ret (results_cellT rfl rfl (loadSaid hbz)) rfl ⟨by rw [HR.out], hbl⟩

set_option maxRecDepth 100000 in
set_option maxHeartbeats 4000000 in
theorem refPut_some (s : List UInt8) (a : Int) (v : List UInt8) (w : World) (hl : s.length ≤ 1000000) (hv : v.length ≤ 1000000) (ha0 : -9223372036854775808 ≤ a) (ha1 : a ≤ 9223372036854775807) (hok : Tx.putOk a v = true) (hv0 : v ≠ []) :
    Calls Tryd.prog 10 #[.string ⟨s.toArray⟩, .int .i64 a, .string ⟨v.toArray⟩] w (SaidOut (Tx.putS s a v) w) := by
  have hok2 : 0 ≤ a ∧ a ≤ 300 ∧ a + v.length ≤ 300 := by
    simp only [Tx.putOk, Bool.and_eq_true, decide_eq_true_eq] at hok
    omega
  obtain ⟨h0, h1, h2⟩ := hok2
  obtain ⟨k, rfl⟩ := Int.eq_ofNat_of_zero_le h0
  have HR := Lib.hid (show Tx.putS s (k : Int) v = (Tx.putB s k v, true) by unfold Tx.putS; rw [if_pos hok, if_neg hv0]; rfl)
  have hwr : IntKind.i64.wrap ((k : Int) + (v.length : Int)) = (k : Int) + v.length := by rw [IntKind.wrap_i64]; omega
  have hne : v.isEmpty = false := by cases v with | nil => exact absurd rfl hv0 | cons _ _ => rfl
  clear hok
  obtain ⟨W1, hW1⟩ : ∃ W1, w.alloc (.cells #[.string ⟨#[]⟩, .bool false] 31) = W1 := ⟨_, rfl⟩
  have hz : Box2 W1 w.heap.size 31 (.string ⟨#[]⟩) (.bool false) := by rw [← hW1]; exact Box2.new w _ _ _
  have hb1 : Below w.heap.size w W1 := by rw [← hW1]; exact (Below.refl _ w).alloc (Nat.le_refl _) _
  obtain ⟨z0, z1, g0, g1⟩ := hz.at
  have HZ := Lib.hid hz
  have HB1 := Lib.hid hb1
  have HW1 := Lib.hid hW1
  clear hz hb1 hW1
  go_enter Tryd.func10, Tryd.ntmps10
  go_upto_region 1 with (fail)
  rw [show w.alloc (.cells #[.string ⟨#[]⟩, .bool false] 31) = W1 from HW1.out]
  clear HW1
  obtain ⟨i0, hi, hi1, hi2, hi3⟩ := info8
  go_upto_region 5 with (fail)
  have hsz : (⟨s.toArray⟩ : ByteArray).size = s.length := by simp [ByteArray.size]
  have hcv : ∀ W, (convert 9 44 (.string ⟨s.toArray⟩)).run Tryd.prog W = .ok (.slice (some ⟨W.heap.size, 0, none⟩) s.length (grownCap W s.length 0 5)) (Lib.bytesWorld W 5 ⟨s.toArray⟩) := fun W => by
    have := Lib.run_convert_string_bytes (P := Tryd.prog) W 9 44 5 ⟨s.toArray⟩ Tryd.underlying9 Tryd.underlying44 Tryd.underlying5
    rwa [hsz] at this
  have HO := Lib.hid (own8_new W1 s hl)
  have HB := Lib.hid (Lib.bytesWorld_below W1 5 ⟨s.toArray⟩)
  clear hsz
  go_wp2_with fail
  clear hcv
  generalize Lib.bytesWorld W1 5 ⟨s.toArray⟩ = w2 at *
  generalize grownCap W1 s.length 0 5 = cp at *
  go_loopw [7] (fun u wr => ∃ (L g cap m : Nat) (l : List UInt8), u = .slice (some ⟨g, 0, none⟩) L cap ∧ Hid (Own8 W1.heap.size wr (.slice (some ⟨g, 0, none⟩) L cap) l) ∧ Hid (Below W1.heap.size W1 wr) ∧ Hid (l = s ++ List.replicate m 0 ∧ l.length = L ∧ (m = 0 ∨ L ≤ k + v.length))) (fun u _ => k + v.length - (match u with | .slice _ n _ => n | _ => 0))
  case atStart => exact ⟨s.length, W1.heap.size, cp, 0, s, rfl, HO, HB, Lib.hid ⟨by simp, rfl, Or.inl rfl⟩⟩
  case round =>
    obtain ⟨L, g, cap, m, l, rfl, HO1, HBr, HL⟩ := hrel
    by_cases hlt : L < k + v.length
    · have hal : Below wr.heap.size wr (wr.alloc (.cells #[.int .u8 0] 5)) := (Below.refl _ wr).alloc (Nat.le_refl _) _
      have HO2 := Lib.hid (HO1.out.later hal)
      have HB2 := Lib.hid (HBr.out.alloc HBr.out.size (.cells #[.int .u8 0] 5))
      have hcell : (wr.alloc (.cells #[.int .u8 0] 5)).cell? ⟨wr.heap.size, 0, none⟩ = some (.int .u8 ((0 : UInt8).toNat : Int)) := by
        rw [cell_of_row _ _ 0 _ _ _ (heap_alloc_new wr _)]
        rfl
      have HC := Lib.hid hcell
      have hltI : (L : Int) < (k : Int) + v.length := by omega
      have hL6 : l.length ≤ 1000000 := by have := HL.out.2.1; omega
      clear hal hcell
      go_wp2_with (at_builtin; refine wpList_append8 rfl (.tmp 35) (.tmp 36) rfl rfl HO2.out HB2.out.size hL6 ⟨wr.heap.size, 0, none⟩ 1 0 rfl HC.out i0 hi hi1 hi2 hi3 ?_; rintro u3 w3 ho3 hb3; have HO3 := Lib.hid ho3; have HB3 := Lib.hid (HB2.out.trans hb3); obtain ⟨g3, cap3, rfl, _⟩ := id ho3; clear ho3 hb3)
      go_roundw
      case rel =>
        refine ⟨L + 1, g3, cap3, m + 1, l ++ [0], ?_, Lib.hid ?_, HB3, Lib.hid ⟨?_, ?_, Or.inr (by omega)⟩⟩
        · rw [HL.out.2.1]
        · have := HO3.out; rwa [List.length_append, HL.out.2.1] at this
        · rw [HL.out.1, List.replicate_succ', List.append_assoc]
        · rw [List.length_append, HL.out.2.1]; rfl
      case measure => simp [HL.out.2.1]; omega
    · have hle : k + v.length ≤ L := by omega
      have hnI : ¬ ((L : Int) < (k : Int) + v.length) := by omega
      have hfin : over8 l k v = Tx.putB s k v := by
        obtain ⟨e1, e2, e3⟩ := HL.out
        subst e1
        exact put_over (by simp at e2; omega) (by simp at e2; omega)
      have HF := Lib.hid hfin
      clear hfin
      have hcapL : L ≤ cap ∧ k ≤ L := by
        obtain ⟨g', cap', e, _, _, q3, _⟩ := id HO1.out
        simp only [Value.slice.injEq, Option.some.injEq, Addr.mk.injEq, and_true] at e
        have := HL.out.2.1
        omega
      obtain ⟨hc1, hc2⟩ := hcapL
      have hk3 : k + v.length ≤ l.length := by rw [HL.out.2.1]; exact hle
      have hz8 : ∀ w, (Go.sizeOf 5).run Tryd.prog w = .ok 1 w := fun w => by simp [Go.sizeOf, typeInfo, hi, hi2]
      obtain ⟨w5, hr5, ho5, hb5⟩ := run_copy8 HO1.out 3 k (L - k) (cap - k) v (by omega) hk3 hz8
      have HO5 := Lib.hid ho5
      have HB5 := Lib.hid (HBr.out.trans hb5)
      have hvl : 0 < v.length := List.length_pos_iff.2 hv0
      have hck : ¬ cap = k := by omega
      clear ho5 hb5 hvl
      go_upto_region 9 with fail
      clear hr5
      have hcv5 := HO5.out.text
      rw [HF.out] at hcv5
      have hz5 := Box2.later HZ.out HB5.out
      obtain ⟨z0, z1, g0, g1⟩ := hz5.at
      have HST := Lib.hid (hz5.store (.string ⟨(Tx.putB s k v).toArray⟩) (.bool true))
      have HB6 := Lib.hid (HB1.out.trans (HB5.out.mono HB1.out.size))
      clear hz5
      go_wp2_with fail
      obtain ⟨we, hwe⟩ : ∃ we, (w5.setCell ⟨w.heap.size, 0, none⟩ (.string ⟨(Tx.putB s k v).toArray⟩)).setCell ⟨w.heap.size, 1, none⟩ (.bool true) = we := ⟨_, rfl⟩
      have hbz : Box2 we w.heap.size 31 (.string ⟨(Tx.putB s k v).toArray⟩) (.bool true) := hwe ▸ HST.out
      have hbl : Below w.heap.size w we := by rw [← hwe]; exact (HB6.out.setCell (p := ⟨w.heap.size, 0, none⟩) (Nat.le_refl _) _).setCell (p := ⟨w.heap.size, 1, none⟩) (Nat.le_refl _) _
      show bodyPost _ _ _ .ret _ ((w5.setCell ⟨w.heap.size, 0, none⟩ (.string ⟨(Tx.putB s k v).toArray⟩)).setCell ⟨w.heap.size, 1, none⟩ (.bool true))
      rw [hwe]
      exact bodyPost_ret (results_cellT rfl rfl (loadSaid hbz)) rfl ⟨by rw [HR.out], hbl⟩

theorem refPut_any (s : List UInt8) (a : Int) (v : List UInt8) (w : World) (hl : s.length ≤ 1000000) (hv : v.length ≤ 1000000) (ha0 : -9223372036854775808 ≤ a) (ha1 : a ≤ 9223372036854775807) :
    Calls Tryd.prog 10 #[.string ⟨s.toArray⟩, .int .i64 a, .string ⟨v.toArray⟩] w (SaidOut (Tx.putS s a v) w) := by
  cases hp : Tx.putOk a v with
  | false => exact refPut_no s a v w hl hv ha0 ha1 hp
  | true =>
    by_cases hv0 : v = []
    · subst hv0; exact refPut_nil s a w hl ha0 ha1 hp
    · exact refPut_some s a v w hl hv ha0 ha1 hp hv0
end Go.Proofs.YtdhcgclchdnmfaaDoor
