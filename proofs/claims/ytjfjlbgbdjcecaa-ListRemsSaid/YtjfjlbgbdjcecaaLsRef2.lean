/- The contracts of the reference's Cut, place, At, LSub and LSet. -/
import Derived.Test.YtjfjlbgbdjcecaaLsRef
import Derived.Deep.Cut
import Derived.Sort.Walk0
namespace Go.Proofs.Ytjfjlbgbdjcecaa
open Go.RowKit Go.Shelf
set_option linter.unusedVariables false
set_option linter.unusedSimpArgs false

set_option maxHeartbeats 2000000 in
theorem cut_any (n : Nat) (i k : Int) (w : World) (hi : -9223372036854775808 ≤ i) (hi2 : i ≤ 9223372036854775807) (hk : -9223372036854775808 ≤ k) (hk2 : k ≤ 9223372036854775807) (hn : n ≤ 1000000) :
    Calls Try.prog 28 #[.int .i64 (n : Int), .int .i64 i, .int .i64 k] w fun e W => e = .returned (.tuple #[.int .i64 (max (Ls.ix n i) 0), .int .i64 (min (Ls.ix n k) ((n : Int) - 1))]) ∧ w = W := by
  have hnI : (n : Int) ≤ 1000000 := by omega
  have w1 : IntKind.i64.wrap ((n : Int) - 1) = (n : Int) - 1 := IntWalk.i64_in _ (by omega)
  have HA : Hid (max (Ls.ix n i) 0 = if i < 0 then max 0 ((n : Int) + i) else i) := Lib.hid (by unfold Ls.ix; split <;> omega)
  have HB : Hid (Ls.ix n k = if k < 0 then (n : Int) + k else k) := Lib.hid (by unfold Ls.ix; split <;> omega)
  by_cases h1 : i < 0
  · have w2 : IntKind.i64.wrap ((n : Int) + i) = (n : Int) + i := IntWalk.i64_in _ (by omega)
    have HA2 := HA.out
    rw [if_pos h1] at HA2
    have HA3 := Lib.hid HA2
    clear HA2
    by_cases h2 : k < 0
    · have w3 : IntKind.i64.wrap ((n : Int) + k) = (n : Int) + k := IntWalk.i64_in _ (by omega)
      have HB2 := HB.out
      rw [if_pos h2] at HB2
      have HB3 := Lib.hid HB2
      clear HB2
      go_enter Try.func28, Try.ntmps28
      go_wp2
      go_ret2
      exact ⟨by rw [HA3.out, HB3.out]; rfl, rfl⟩
    · have HB2 := HB.out
      rw [if_neg h2] at HB2
      have HB3 := Lib.hid HB2
      clear HB2
      go_enter Try.func28, Try.ntmps28
      go_wp2
      go_ret2
      exact ⟨by rw [HA3.out, HB3.out]; rfl, rfl⟩
  · have HA2 := HA.out
    rw [if_neg h1] at HA2
    have HA3 := Lib.hid HA2
    clear HA2
    by_cases h2 : k < 0
    · have w3 : IntKind.i64.wrap ((n : Int) + k) = (n : Int) + k := IntWalk.i64_in _ (by omega)
      have HB2 := HB.out
      rw [if_pos h2] at HB2
      have HB3 := Lib.hid HB2
      clear HB2
      go_enter Try.func28, Try.ntmps28
      go_wp2
      go_ret2
      exact ⟨by rw [HA3.out, HB3.out]; rfl, rfl⟩
    · have HB2 := HB.out
      rw [if_neg h2] at HB2
      have HB3 := Lib.hid HB2
      clear HB2
      go_enter Try.func28, Try.ntmps28
      go_wp2
      go_ret2
      exact ⟨by rw [HA3.out, HB3.out]; rfl, rfl⟩

/-- the place of an index; -1: none. -/
def plS (n : Nat) (i : Int) : Int := if Ls.isAt n i then Ls.ix n i else -1
theorem isAt_yes {n : Nat} {i : Int} (h : 0 ≤ Ls.ix n i ∧ Ls.ix n i < n) : Ls.isAt n i = true := by unfold Ls.isAt; rw [decide_eq_true h.1, decide_eq_true h.2]; rfl
theorem isAt_no {n : Nat} {i : Int} (h : ¬ (0 ≤ Ls.ix n i ∧ Ls.ix n i < n)) : Ls.isAt n i = false := by
  unfold Ls.isAt
  by_cases h0 : 0 ≤ Ls.ix n i
  · rw [decide_eq_true h0, decide_eq_false (fun h1 => h ⟨h0, h1⟩)]; rfl
  · rw [decide_eq_false h0]; rfl
set_option maxHeartbeats 2000000 in
theorem place_any (n : Nat) (i : Int) (w : World) (hi : -9223372036854775808 ≤ i) (hi2 : i ≤ 9223372036854775807) (hn : n ≤ 1000000) :
    Calls Try.prog 24 #[.int .i64 (n : Int), .int .i64 i] w fun e W => e = .returned (.int .i64 (plS n i)) ∧ w = W := by
  have hnI : (n : Int) ≤ 1000000 := by omega
  have hx : Ls.ix n i = if i < 0 then (n : Int) + i else i := by unfold Ls.ix; split <;> omega
  by_cases h1 : i < 0
  · have w2 : IntKind.i64.wrap ((n : Int) + i) = (n : Int) + i := IntWalk.i64_in _ (by omega)
    rw [if_pos h1] at hx
    by_cases h : 0 ≤ Ls.ix n i ∧ Ls.ix n i < n
    · have HP := Lib.hid (show plS n i = (n : Int) + i by unfold plS; rw [isAt_yes h, ← hx]; rfl)
      rw [hx] at h
      have q1 : ¬ (n : Int) + i < 0 := by omega
      have q2 : ¬ (n : Int) ≤ (n : Int) + i := by omega
      clear hx h
      go_enter Try.func24, Try.ntmps24
      go_wp2
      go_ret
      exact ⟨by rw [HP.out]; rfl, rfl⟩
    · have HP := Lib.hid (show plS n i = -1 by unfold plS; rw [isAt_no h]; rfl)
      rw [hx] at h
      have q1 : (n : Int) + i < 0 := by omega
      clear hx h
      go_enter Try.func24, Try.ntmps24
      go_wp2
      go_ret
      exact ⟨by rw [HP.out]; rfl, rfl⟩
  · rw [if_neg h1] at hx
    by_cases h : 0 ≤ Ls.ix n i ∧ Ls.ix n i < n
    · have HP := Lib.hid (show plS n i = i by unfold plS; rw [isAt_yes h, if_pos rfl, hx])
      rw [hx] at h
      have q2 : ¬ (n : Int) ≤ i := by omega
      clear hx h
      go_enter Try.func24, Try.ntmps24
      go_wp2
      go_ret
      exact ⟨by rw [HP.out]; rfl, rfl⟩
    · have HP := Lib.hid (show plS n i = -1 by unfold plS; rw [isAt_no h]; rfl)
      rw [hx] at h
      have q2 : (n : Int) ≤ i := by omega
      clear hx h
      go_enter Try.func24, Try.ntmps24
      go_wp2
      go_ret
      exact ⟨by rw [HP.out]; rfl, rfl⟩
/-- two cells in a block. -/
def Box2 (w : World) (B : Nat) (T : TypeId) (x y : Value) : Prop := w.heap[B]? = some (.cells #[x, y] T (0, 0))
theorem Box2.new (w : World) (T : TypeId) (x y : Value) : Box2 (w.alloc (.cells #[x, y] T)) w.heap.size T x y := World.alloc_heap_new w _
theorem Box2.at {w : World} {B : Nat} {T : TypeId} {x y : Value} (h : Box2 w B T x y) : w.cell? ⟨B, 0, none⟩ = some x ∧ w.cell? ⟨B, 1, none⟩ = some y ∧ w.frozen? ⟨B, 0, none⟩ = false ∧ w.frozen? ⟨B, 1, none⟩ = false := by
  unfold Box2 at h
  refine ⟨?_, ?_, ?_, ?_⟩ <;> simp [World.cell?, World.frozen?, h]
theorem Box2.later {w w' : World} {B : Nat} {T : TypeId} {x y : Value} (h : Box2 w B T x y) (hb : Below w.heap.size w w') : Box2 w' B T x y := (hb.block B (Array.getElem?_eq_some_iff.1 h).1).trans h
theorem Box2.store {w : World} {B : Nat} {T : TypeId} {x y : Value} (h : Box2 w B T x y) (x' y' : Value) : Box2 ((w.setCell ⟨B, 0, none⟩ x').setCell ⟨B, 1, none⟩ y') B T x' y' := by
  unfold Box2 at h ⊢
  simp [World.setCell, Array.getElem?_modify, h]
theorem loadSaid {w : World} {B : Nat} {s : List UInt8} {b : Bool} (h : Box2 w B 28 (.string ⟨s.toArray⟩) (.bool b)) : (loadVar 28 ⟨B, 0, none⟩).run Try.prog w = .ok (.agg #[.string ⟨s.toArray⟩, .bool b]) w := by
  obtain ⟨h0, h1, _, _⟩ := h.at
  simp [loadVar, go_sem, h0, h1]


set_option maxRecDepth 100000 in
set_option maxHeartbeats 2000000 in
theorem at_ref (a : Option Addr) (cap : Nat) (ws : List Ls.Bs) (i : Int) (w : World) (hF : Wds w a cap ws) (hi : -9223372036854775808 ≤ i) (hi2 : i ≤ 9223372036854775807) (hn : ws.length ≤ 1000000) :
    Calls Try.prog 11 #[.slice a ws.length cap, .int .i64 i] w fun e W => e = .returned (.agg #[.string ⟨(Ls.atS ws i).toArray⟩, .bool (Ls.isAt ws.length i)]) ∧ Below w.heap.size w W := by
  have hnI : (ws.length : Int) ≤ 1000000 := by omega
  obtain ⟨W1, hW1⟩ : ∃ W1, w.alloc (.cells #[.string ⟨#[]⟩, .bool false] 28) = W1 := ⟨_, rfl⟩
  have hz : Box2 W1 w.heap.size 28 (.string ⟨#[]⟩) (.bool false) := by rw [← hW1]; exact Box2.new w _ _ _
  have hb1 : Below w.heap.size w W1 := by rw [← hW1]; exact (Below.refl _ w).alloc (Nat.le_refl _) _
  have hzl := (Array.getElem?_eq_some_iff.1 hz).1
  obtain ⟨z0, z1, g0, g1⟩ := hz.at
  have HF := Lib.hid (hF.later hb1)
  have HW1 := Lib.hid hW1
  have HZ := Lib.hid hz
  have HB1 := Lib.hid hb1
  have HP := Lib.hid (place_any ws.length i W1 hi hi2 hn)
  clear hF hW1 hz hb1
  by_cases h : 0 ≤ Ls.ix ws.length i ∧ Ls.ix ws.length i < ws.length
  · have hA := isAt_yes h
    have HR := Lib.hid (show Ls.atS ws i = ws.getD (Ls.ix ws.length i).toNat [] by unfold Ls.atS; rw [hA]; rfl)
    have hpl : plS ws.length i = Ls.ix ws.length i := by unfold plS; rw [hA]; rfl
    have HA := Lib.hid hA
    obtain ⟨j, hj⟩ : ∃ j : Nat, Ls.ix ws.length i = (j : Int) := ⟨(Ls.ix ws.length i).toNat, by omega⟩
    have hjn : j < ws.length := by omega
    have hjI : (j : Int) < (ws.length : Int) := by omega
    obtain ⟨b, off, rfl, hb, hc⟩ := HF.out.get (by omega)
    have c1 := hc j hjn
    rw [hj] at hpl HR
    rw [hpl] at HP
    rw [Int.toNat_natCast] at HR
    generalize ws.getD j [] = x at c1 HR
    have HST := Lib.hid (HZ.out.store (.string ⟨x.toArray⟩) (.bool true))
    have q1 : ¬ (j : Int) < 0 := by omega
    clear hA h hj hc hi hi2 hpl
    go_enter Try.func11, Try.ntmps11
    go_upto_region 1 with (fail)
    rw [show w.alloc (.cells #[.string ⟨#[]⟩, .bool false] 28) = W1 from HW1.out]
    clear HW1
    go_wp2_with (go_at_call 24; (with_reducible refine HP.out.mono ?_); rintro e w1 ⟨rfl, rfl⟩)
    obtain ⟨we, hwe⟩ : ∃ we, (W1.setCell ⟨w.heap.size, 0, none⟩ (.string ⟨x.toArray⟩)).setCell ⟨w.heap.size, 1, none⟩ (.bool true) = we := ⟨_, rfl⟩
    have hbz : Box2 we w.heap.size 28 (.string ⟨x.toArray⟩) (.bool true) := hwe ▸ HST.out
    have hbl : Below w.heap.size w we := by rw [← hwe]; exact (HB1.out.setCell (p := ⟨w.heap.size, 0, none⟩) (Nat.le_refl _) _).setCell (p := ⟨w.heap.size, 1, none⟩) (Nat.le_refl _) _
    show bodyPost _ _ _ .ret _ ((W1.setCell ⟨w.heap.size, 0, none⟩ (.string ⟨x.toArray⟩)).setCell ⟨w.heap.size, 1, none⟩ (.bool true))
    rw [hwe]
    exact bodyPost_ret (results_cell rfl rfl (loadSaid hbz)) rfl ⟨by rw [HR.out, HA.out], hbl⟩
  · have hA := isAt_no h
    have HR := Lib.hid (show Ls.atS ws i = [] by unfold Ls.atS; rw [hA]; rfl)
    have hpl : plS ws.length i = -1 := by unfold plS; rw [hA]; rfl
    rw [hpl] at HP
    have HA := Lib.hid hA
    have HST := Lib.hid (HZ.out.store (.string ⟨#[]⟩) (.bool false))
    clear hA h hi hi2 hpl
    go_enter Try.func11, Try.ntmps11
    go_upto_region 1 with (fail)
    rw [show w.alloc (.cells #[.string ⟨#[]⟩, .bool false] 28) = W1 from HW1.out]
    clear HW1
    go_wp2_with (go_at_call 24; (with_reducible refine HP.out.mono ?_); rintro e w1 ⟨rfl, rfl⟩)
    obtain ⟨we, hwe⟩ : ∃ we, (W1.setCell ⟨w.heap.size, 0, none⟩ (.string ⟨#[]⟩)).setCell ⟨w.heap.size, 1, none⟩ (.bool false) = we := ⟨_, rfl⟩
    have hbz : Box2 we w.heap.size 28 (.string ⟨([] : List UInt8).toArray⟩) (.bool false) := hwe ▸ HST.out
    have hbl : Below w.heap.size w we := by rw [← hwe]; exact (HB1.out.setCell (p := ⟨w.heap.size, 0, none⟩) (Nat.le_refl _) _).setCell (p := ⟨w.heap.size, 1, none⟩) (Nat.le_refl _) _
    show bodyPost _ _ _ .ret _ ((W1.setCell ⟨w.heap.size, 0, none⟩ (.string ⟨#[]⟩)).setCell ⟨w.heap.size, 1, none⟩ (.bool false))
    rw [hwe]
    exact bodyPost_ret (results_cell rfl rfl (loadSaid hbz)) rfl ⟨by rw [HR.out, HA.out], hbl⟩

set_option maxRecDepth 100000 in
set_option maxHeartbeats 2000000 in
theorem lsub_ref (a : Option Addr) (cap : Nat) (ws : List Ls.Bs) (i k : Int) (w : World) (hF : Wds w a cap ws) (hi : -9223372036854775808 ≤ i) (hi2 : i ≤ 9223372036854775807) (hk : -9223372036854775808 ≤ k) (hk2 : k ≤ 9223372036854775807) (hn : ws.length ≤ 1000000) :
    Calls Try.prog 20 #[.slice a ws.length cap, .int .i64 i, .int .i64 k] w fun e W => ∃ u, e = .returned u ∧ RowW w u (Ls.subS ws i k) W := by
  have hnI : (ws.length : Int) ≤ 1000000 := by omega
  have HC := Lib.hid (cut_any ws.length i k w hi hi2 hk hk2 hn)
  have HR : Hid (Ls.subS ws i k = if max (Ls.ix ws.length i) 0 > min (Ls.ix ws.length k) (ws.length - 1) then [] else (ws.drop (max (Ls.ix ws.length i) 0).toNat).take ((min (Ls.ix ws.length k) (ws.length - 1)).toNat + 1 - (max (Ls.ix ws.length i) 0).toNat)) := Lib.hid rfl
  have b1 : 0 ≤ max (Ls.ix ws.length i) 0 := by omega
  have b2 : min (Ls.ix ws.length k) ((ws.length : Int) - 1) ≤ (ws.length : Int) - 1 := by omega
  generalize max (Ls.ix ws.length i) 0 = x at *
  generalize min (Ls.ix ws.length k) ((ws.length : Int) - 1) = y at *
  clear hi hi2 hk hk2
  by_cases h : x > y
  · have hR := HR.out
    rw [if_pos h] at hR
    have HR2 := Lib.hid hR
    have hlt : y < x := h
    clear hR h HR
    go_enter Try.func20, Try.ntmps20
    go_wp2_with (go_at_call 28; (with_reducible refine HC.out.mono ?_); rintro e w1 ⟨rfl, rfl⟩)
    go_ret
    exact ⟨_, rfl, by rw [HR2.out]; exact RowW.none (Below.refl _ _)⟩
  · have hR := HR.out
    rw [if_neg h] at hR
    obtain ⟨F, rfl⟩ : ∃ F : Nat, x = (F : Int) := ⟨x.toNat, by omega⟩
    obtain ⟨M, rfl⟩ : ∃ M : Nat, y = (M : Int) := ⟨y.toNat, by omega⟩
    rw [Int.toNat_natCast, Int.toNat_natCast] at hR
    have hFM : F ≤ M := by omega
    have hMn : M < ws.length := by omega
    obtain ⟨b, off, rfl, hb, hc⟩ := hF.get (by omega)
    have hcap := hF.1
    have hcap2 := hF.2.1
    have hsub := wds_sub hF hFM hMn
    have hsl : ((ws.drop F).take (M + 1 - F)).length = M + 1 - F := by rw [List.length_take, List.length_drop]; omega
    rw [← hR] at hsub hsl
    have HS := Lib.hid hsub
    have HSL := Lib.hid hsl
    have f1 : (F : Int) ≤ (M : Int) := by omega
    have f2 : (M : Int) < (ws.length : Int) := by omega
    have f3 : (ws.length : Int) ≤ (cap : Int) := by omega
    have f4 : (cap : Int) ≤ 9223372036854775807 := by omega
    have hw2 : IntKind.i64.wrap ((M : Int) + 1) = (M : Int) + 1 := IntWalk.i64_in _ (by omega)
    have hne : ¬ (M : Int) < (F : Int) := by omega
    clear hR h HR hc hF hsub hsl
    generalize Ls.subS ws i k = out at HS HSL ⊢
    have hlo : out.length ≤ 2000000 := by have := HSL.out; omega
    go_enter Try.func20, Try.ntmps20
    go_wp2_with (first
      | (go_at_call 28; (with_reducible refine HC.out.mono ?_); rintro e w1 ⟨rfl, rfl⟩)
      | (at_builtin; refine wpList_append_w (xs := out) rfl (.tmp 20) (.tmp 25) rfl rfl (RowW.empty (Below.refl w.heap.size w)) (by rw [HSL.out]; rfl) (HS.out.later ((Below.refl _ _).alloc (Nat.le_refl _) _)) (fun h => by cases h) (by simp) hlo ?_; intro v1 w1 hr1; rw [List.nil_append] at hr1; have HR1 := Lib.hid hr1; clear hr1))
    go_ret
    exact ⟨_, rfl, HR1.out⟩

set_option maxRecDepth 100000 in
set_option maxHeartbeats 2000000 in
theorem lset_ref (a : Option Addr) (cap : Nat) (ws : List Ls.Bs) (i : Int) (v : Ls.Bs) (w : World) (hF : Wds w a cap ws) (hna : a = Option.none → cap = 0) (hi : -9223372036854775808 ≤ i) (hi2 : i ≤ 9223372036854775807) (hn : ws.length ≤ 1000000) :
    Calls Try.prog 13 #[.slice a ws.length cap, .int .i64 i, .string ⟨v.toArray⟩] w fun e W => ∃ u, e = .returned (.tuple #[u, .bool (Ls.isAt ws.length i)]) ∧ RowW w u (Ls.setS ws i v) W := by
  have hnI : (ws.length : Int) ≤ 1000000 := by omega
  have HP := Lib.hid (place_any ws.length i w hi hi2 hn)
  by_cases h : 0 ≤ Ls.ix ws.length i ∧ Ls.ix ws.length i < ws.length
  · have hA := isAt_yes h
    have HR := Lib.hid (show Ls.setS ws i v = ws.set (Ls.ix ws.length i).toNat v by unfold Ls.setS; rw [hA]; rfl)
    have hpl : plS ws.length i = Ls.ix ws.length i := by unfold plS; rw [hA]; rfl
    have HA := Lib.hid hA
    obtain ⟨j, hj⟩ : ∃ j : Nat, Ls.ix ws.length i = (j : Int) := ⟨(Ls.ix ws.length i).toNat, by omega⟩
    have hjn : j < ws.length := by omega
    have hjI : (j : Int) < (ws.length : Int) := by omega
    rw [hj] at hpl HR
    rw [hpl] at HP
    rw [Int.toNat_natCast] at HR
    have q1 : ¬ (j : Int) < 0 := by omega
    have HF := Lib.hid hF
    have HNA := Lib.hid hna
    clear hA h hj hF hi hi2 hpl hna
    go_enter Try.func13, Try.ntmps13
    go_upto_region 5 with (first
      | (go_at_call 24; (with_reducible refine HP.out.mono ?_); rintro e w1 ⟨rfl, rfl⟩)
      | (at_builtin; refine wpList_append_w rfl (.tmp 16) (.tmp 17) rfl rfl (RowW.empty (Below.refl w.heap.size w)) rfl (HF.out.later ((Below.refl _ _).alloc (Nat.le_refl _) _)) HNA.out (by simp) (by omega) ?_; intro v1 w1 hr1; rw [List.nil_append] at hr1; obtain ⟨g1, cap1, hu1, hc1, c1, f1, hR1⟩ := rowW_setAt hr1 (Below.refl _ _) hjn v; subst hu1; have HR4 := Lib.hid hR1; clear hr1 hR1))
    go_wp2_with fail
    go_ret2
    exact ⟨_, by rw [HA.out]; rfl, by rw [HR.out]; exact HR4.out⟩
  · have hA := isAt_no h
    have HR := Lib.hid (show Ls.setS ws i v = [] by unfold Ls.setS; rw [hA]; rfl)
    have hpl : plS ws.length i = -1 := by unfold plS; rw [hA]; rfl
    rw [hpl] at HP
    have HA := Lib.hid hA
    clear hA h hi hi2 hpl hF
    go_enter Try.func13, Try.ntmps13
    go_wp2_with (go_at_call 24; (with_reducible refine HP.out.mono ?_); rintro e w1 ⟨rfl, rfl⟩)
    go_ret2
    exact ⟨_, by rw [HA.out]; rfl, by rw [HR.out]; exact RowW.none (Below.refl _ _)⟩
end Go.Proofs.Ytjfjlbgbdjcecaa
