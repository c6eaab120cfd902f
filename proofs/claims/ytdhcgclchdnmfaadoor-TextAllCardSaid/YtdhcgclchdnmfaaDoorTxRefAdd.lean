/- The contract of the reference's Add. -/
import Derived.Test.YtdhcgclchdnmfaaDoorTxRefNum
namespace Go.Proofs.YtdhcgclchdnmfaaDoor
open Go.RowKit Go.Shelf
set_option linter.unusedVariables false
set_option linter.unusedSimpArgs false

theorem loadSaid {w : World} {B : Nat} {s : List UInt8} {b : Bool} (h : Box2 w B 31 (.string ⟨s.toArray⟩) (.bool b)) : (loadVar 31 ⟨B, 0, none⟩).run Tryd.prog w = .ok (.agg #[.string ⟨s.toArray⟩, .bool b]) w := by
  obtain ⟨h0, h1, _, _⟩ := h.at
  simp [loadVar, go_sem, h0, h1]
/-- what Add, Put tell. -/
def SaidOut (p : List UInt8 × Bool) (w : World) (e : Ending) (W : World) : Prop := e = .returned (.agg #[.string ⟨p.1.toArray⟩, .bool p.2]) ∧ Below w.heap.size w W

/-- the sum as the machine has it: whether it went too far. -/
theorem sum_far {x n S : Int} (hx0 : -9223372036854775808 ≤ x) (hx1 : x ≤ 9223372036854775807) (hn0 : -9223372036854775808 ≤ n) (hn1 : n ≤ 9223372036854775807) (hS : IntKind.i64.wrap (x + n) = S) :
    (decide (x ≤ S) != decide (0 ≤ n)) = !(decide (-9223372036854775808 ≤ x + n) && decide (x + n ≤ 9223372036854775807)) ∧ (-9223372036854775808 ≤ x + n → x + n ≤ 9223372036854775807 → S = x + n) ∧ -9223372036854775808 ≤ S ∧ S ≤ 9223372036854775807 := by
  rw [IntKind.wrap_i64] at hS
  refine ⟨?_, by omega, by omega, by omega⟩
  by_cases h1 : x ≤ S <;> by_cases h2 : 0 ≤ n <;> by_cases h3 : -9223372036854775808 ≤ x + n <;> by_cases h4 : x + n ≤ 9223372036854775807 <;> simp only [h1, h2, h3, h4, decide_true, decide_false] <;> first | rfl | (exfalso; omega)

set_option maxRecDepth 100000 in
set_option maxHeartbeats 4000000 in
theorem refAdd_any (s : List UInt8) (n : Int) (w : World) (hl : s.length ≤ 1000000) (hn0 : -9223372036854775808 ≤ n) (hn1 : n ≤ 9223372036854775807) :
    Calls Tryd.prog 12 #[.string ⟨s.toArray⟩, .int .i64 n] w (SaidOut (Tx.addS s n) w) := by
  obtain ⟨W1, hW1⟩ : ∃ W1, w.alloc (.cells #[.string ⟨#[]⟩, .bool false] 31) = W1 := ⟨_, rfl⟩
  have hz : Box2 W1 w.heap.size 31 (.string ⟨#[]⟩) (.bool false) := by rw [← hW1]; exact Box2.new w _ _ _
  have hb1 : Below w.heap.size w W1 := by rw [← hW1]; exact (Below.refl _ w).alloc (Nat.le_refl _) _
  have hnum := refNum_any s W1 hl
  have hrange : -9223372036854775808 ≤ (Tx.numS s).1 ∧ (Tx.numS s).1 ≤ 9223372036854775807 := by
    cases hp : (Tx.numS s).2 with
    | true => exact (Tx.num_is (Prod.ext rfl hp)).2
    | false => rw [Tx.num_no hp]; exact ⟨by decide, by decide⟩
  have hA : Tx.addS s n = if (Tx.numS s).2 && decide (-9223372036854775808 ≤ (Tx.numS s).1 + n) && decide ((Tx.numS s).1 + n ≤ 9223372036854775807) then (Dig.dec ((Tx.numS s).1 + n), true) else ([], false) := rfl
  unfold NumOut at hnum
  generalize (Tx.numS s).1 = x at *
  generalize (Tx.numS s).2 = b at *
  obtain ⟨hx0, hx1⟩ := hrange
  obtain ⟨S, hS⟩ : ∃ S, IntKind.i64.wrap (x + n) = S := ⟨_, rfl⟩
  obtain ⟨f1, f2, f3, f4⟩ := sum_far hx0 hx1 hn0 hn1 hS
  have HNUM := Lib.hid hnum
  have HA := Lib.hid hA
  have HW1 := Lib.hid hW1
  have HZ := Lib.hid hz
  have HB1 := Lib.hid hb1
  have HF1 := Lib.hid f1
  have HF2 := Lib.hid f2
  have HD := Lib.hid (fun W => digits_any S W f3 f4)
  clear hnum hA hW1 hz hb1 f1 f2
  obtain ⟨far, hfar⟩ : ∃ far, (decide (x ≤ S) != decide (0 ≤ n)) = far := ⟨_, rfl⟩
  have hfar2 : (!(decide (x ≤ S) == decide (0 ≤ n))) = far := hfar
  go_enter Tryd.func12, Tryd.ntmps12
  go_upto_region 1 with (fail)
  rw [show w.alloc (.cells #[.string ⟨#[]⟩, .bool false] 31) = W1 from HW1.out]
  clear HW1
  go_wp2_with fail
  refine HNUM.out.mono ?_
  rintro e w2 ⟨rfl, hb2⟩
  have hz2 := Box2.later HZ.out hb2
  have hlt2 := (Array.getElem?_eq_some_iff.1 hz2).1
  have HZ2 := Lib.hid hz2
  have HB2 := Lib.hid (HB1.out.trans (hb2.mono HB1.out.size))
  clear hb2 hz2
  go_upto_region 2 with (fail)
  obtain ⟨w3, hw3⟩ : ∃ w3, w2.alloc (.cells #[.int .i64 x, .bool b] 26) = w3 := ⟨_, rfl⟩
  have hx3 : Box2 w3 w2.heap.size 26 (.int .i64 x) (.bool b) := by rw [← hw3]; exact Box2.new w2 _ _ _
  have hb23 : Below w2.heap.size w2 w3 := by rw [← hw3]; exact (Below.refl _ w2).alloc (Nat.le_refl _) _
  have HB3 := Lib.hid (HB2.out.trans (hb23.mono HB2.out.size))
  have hz3 := Box2.later HZ2.out hb23
  obtain ⟨z0, z1, g0, g1⟩ := hz3.at
  obtain ⟨x0, x1, _, _⟩ := hx3.at
  have HZ3 := Lib.hid hz3
  rw [show w2.alloc (.cells #[.int .i64 x, .bool b] 26) = w3 from hw3]
  clear hw3 hx3 hb23 hz3
  cases b with
  | false =>
    have HR := Lib.hid (show Tx.addS s n = ([], false) by rw [HA.out]; rfl)
    have HST := Lib.hid (HZ3.out.store (.string ⟨#[]⟩) (.bool false))
    go_wp2_with fail
    obtain ⟨we, hwe⟩ : ∃ we, (w3.setCell ⟨w.heap.size, 0, none⟩ (.string ⟨#[]⟩)).setCell ⟨w.heap.size, 1, none⟩ (.bool false) = we := ⟨_, rfl⟩
    have hbz : Box2 we w.heap.size 31 (.string ⟨#[]⟩) (.bool false) := hwe ▸ HST.out
    have hbl : Below w.heap.size w we := by rw [← hwe]; exact (HB3.out.setCell (p := ⟨w.heap.size, 0, none⟩) (Nat.le_refl _) _).setCell (p := ⟨w.heap.size, 1, none⟩) (Nat.le_refl _) _
    show bodyPost _ _ _ .ret _ ((w3.setCell ⟨w.heap.size, 0, none⟩ (.string ⟨#[]⟩)).setCell ⟨w.heap.size, 1, none⟩ (.bool false))
    rw [hwe]
    exact bodyPost_ret (results_cellT rfl rfl (loadSaid hbz)) rfl ⟨by rw [HR.out], hbl⟩
  | true =>
    cases far with
    | true =>
      have HR := Lib.hid (show Tx.addS s n = ([], false) by
        have h := HF1.out
        rw [hfar] at h
        rw [HA.out, Bool.true_and]
        exact if_neg (by intro h'; rw [h'] at h; cases h))
      have HST := Lib.hid (HZ3.out.store (.string ⟨#[]⟩) (.bool false))
      go_wp2_with fail
      obtain ⟨we, hwe⟩ : ∃ we, (w3.setCell ⟨w.heap.size, 0, none⟩ (.string ⟨#[]⟩)).setCell ⟨w.heap.size, 1, none⟩ (.bool false) = we := ⟨_, rfl⟩
      have hbz : Box2 we w.heap.size 31 (.string ⟨#[]⟩) (.bool false) := hwe ▸ HST.out
      have hbl : Below w.heap.size w we := by rw [← hwe]; exact (HB3.out.setCell (p := ⟨w.heap.size, 0, none⟩) (Nat.le_refl _) _).setCell (p := ⟨w.heap.size, 1, none⟩) (Nat.le_refl _) _
      show bodyPost _ _ _ .ret _ ((w3.setCell ⟨w.heap.size, 0, none⟩ (.string ⟨#[]⟩)).setCell ⟨w.heap.size, 1, none⟩ (.bool false))
      rw [hwe]
      exact bodyPost_ret (results_cellT rfl rfl (loadSaid hbz)) rfl ⟨by rw [HR.out], hbl⟩
    | false =>
      have hin : (decide (-9223372036854775808 ≤ x + n) && decide (x + n ≤ 9223372036854775807)) = true := by
        have h := HF1.out
        rw [hfar] at h
        cases h' : (decide (-9223372036854775808 ≤ x + n) && decide (x + n ≤ 9223372036854775807)) with
        | true => rfl
        | false => rw [h'] at h; cases h
      have HR := Lib.hid (show Tx.addS s n = (Dig.dec S, true) by
        rw [HA.out, Bool.true_and, if_pos hin]
        rw [Bool.and_eq_true, decide_eq_true_eq, decide_eq_true_eq] at hin
        rw [HF2.out hin.1 hin.2])
      clear hin
      go_wp2_with fail
      refine (HD.out _).mono ?_
      rintro e w4 ⟨rfl, hb4⟩
      have hz4 := Box2.later HZ3.out hb4
      obtain ⟨z0, z1, g0, g1⟩ := hz4.at
      have HB4 := Lib.hid (HB3.out.trans (hb4.mono HB3.out.size))
      have HST := Lib.hid (hz4.store (.string ⟨(Dig.dec S).toArray⟩) (.bool true))
      clear hz4 hb4
      go_wp2_with fail
      obtain ⟨we, hwe⟩ : ∃ we, (w4.setCell ⟨w.heap.size, 0, none⟩ (.string ⟨(Dig.dec S).toArray⟩)).setCell ⟨w.heap.size, 1, none⟩ (.bool true) = we := ⟨_, rfl⟩
      have hbz : Box2 we w.heap.size 31 (.string ⟨(Dig.dec S).toArray⟩) (.bool true) := hwe ▸ HST.out
      have hbl : Below w.heap.size w we := by rw [← hwe]; exact (HB4.out.setCell (p := ⟨w.heap.size, 0, none⟩) (Nat.le_refl _) _).setCell (p := ⟨w.heap.size, 1, none⟩) (Nat.le_refl _) _
      show bodyPost _ _ _ .ret _ ((w4.setCell ⟨w.heap.size, 0, none⟩ (.string ⟨(Dig.dec S).toArray⟩)).setCell ⟨w.heap.size, 1, none⟩ (.bool true))
      rw [hwe]
      exact bodyPost_ret (results_cellT rfl rfl (loadSaid hbz)) rfl ⟨by rw [HR.out], hbl⟩
end Go.Proofs.YtdhcgclchdnmfaaDoor
