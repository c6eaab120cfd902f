/- The contract of the developers' Put. -/
import Derived.Test.YtdhcgclchdnmfaaDoorTxSub
import Derived.Test.YtdhcgclchdnmfaaDoorTxBuilder
namespace Go.Proofs.YtdhcgclchdnmfaaDoor
open Go.RowKit Go.Shelf
set_option linter.unusedVariables false
set_option linter.unusedSimpArgs false

namespace Tx
/-- what is put, piece by piece. -/
theorem putB_pieces (s v : List UInt8) (k m : Nat) (hm : m = min k s.length) :
    putB s k v = s.take m ++ List.replicate (k - m) 0 ++ v ++ s.drop (min (k + v.length) s.length) := by
  unfold putB
  have e1 : (s ++ List.replicate (k - s.length) 0).take k = s.take m ++ List.replicate (k - m) 0 := by
    subst hm
    by_cases h : k ≤ s.length
    · rw [Nat.min_eq_left h, Nat.sub_self, Nat.sub_eq_zero_of_le h]
      simp
    · rw [Nat.min_eq_right (by omega), List.take_append, List.take_of_length_le (by omega), List.take_length, List.take_of_length_le (by simp)]
  have e2 : s.drop (k + v.length) = s.drop (min (k + v.length) s.length) := by
    by_cases h : k + v.length ≤ s.length
    · rw [Nat.min_eq_left h]
    · rw [Nat.min_eq_right (by omega), List.drop_eq_nil_of_le (by omega), List.drop_eq_nil_of_le (by omega)]
  rw [e1, e2]
end Tx

theorem ret_sb {a c : List UInt8} {b d : Bool} (h : (a, b) = (c, d)) : Ending.returned (.tuple #[.string ⟨a.toArray⟩, .bool b]) = .returned (.tuple #[.string ⟨c.toArray⟩, .bool d]) := by
  simp only [Prod.mk.injEq] at h
  rw [h.1, h.2]

set_option maxRecDepth 100000 in
set_option maxHeartbeats 8000000 in
theorem put_any (s : List UInt8) (a : Int) (v : List UInt8) (w : World) (hl : s.length ≤ 1000000) (hv : v.length ≤ 1000000) (a0 : -9223372036854775808 ≤ a) (a1 : a ≤ 9223372036854775807) :
    Calls Tryd.prog 9 #[.string ⟨s.toArray⟩, .int .i64 a, .string ⟨v.toArray⟩] w fun e W => e = .returned (.tuple #[.string ⟨(Tx.putS s a v).1.toArray⟩, .bool (Tx.putS s a v).2]) ∧ Below w.heap.size w W := by
  have hvI : (v.length : Int) ≤ 1000000 := by omega
  have hsI : (s.length : Int) ≤ 1000000 := by omega
  have hS : Tx.putS s a v = if (decide (0 ≤ a) && decide (a + v.length ≤ 300)) then (if v = [] then (s, true) else (Tx.putB s a.toNat v, true)) else ([], false) := rfl
  by_cases hneg : a < 0
  · have HR : Hid (Tx.putS s a v = ([], false)) := Lib.hid (by rw [hS, decide_eq_false (by omega)]; rfl)
    clear hS
    go_enter Tryd.func9, Tryd.ntmps9
    go_wp2_with fail
    go_ret2
    exact ⟨ret_sb HR.out.symm, Below.refl _ _⟩
  · by_cases hfar : 300 - (v.length : Int) < a
    · have HR : Hid (Tx.putS s a v = ([], false)) := Lib.hid (by rw [hS, decide_eq_false (p := a + v.length ≤ 300) (by omega), Bool.and_false]; rfl)
      clear hS
      go_enter Tryd.func9, Tryd.ntmps9
      go_wp2_with fail
      go_ret2
      exact ⟨ret_sb HR.out.symm, Below.refl _ _⟩
    · by_cases hv0 : v = []
      · have HR : Hid (Tx.putS s a v = (s, true)) := Lib.hid (by rw [hS, decide_eq_true (by omega), decide_eq_true (by omega), Bool.and_self, if_pos rfl, if_pos hv0])
        have HC := Lib.hid (fun W => clone_any s W (by omega))
        subst hv0
        clear hS
        go_enter Tryd.func9, Tryd.ntmps9
        go_wp2_with (go_at_call 18; refine (HC.out _).mono ?_; rintro e w1 ⟨rfl, hb⟩; have HB1 := Lib.hid hb; clear hb)
        go_ret2
        exact ⟨ret_sb HR.out.symm, HB1.out⟩
      · obtain ⟨k, rfl⟩ := Int.eq_ofNat_of_zero_le (show 0 ≤ a by omega)
        have HR : Hid (Tx.putS s k v = (Tx.putB s k v, true)) := Lib.hid (by rw [hS, decide_eq_true (by omega), decide_eq_true (by omega), Bool.and_self, if_pos rfl, if_neg hv0, Int.toNat_natCast])
        have hie : v.isEmpty = false := by rw [List.isEmpty_eq_false_iff]; exact hv0
        obtain ⟨m, hm⟩ : ∃ m, m = min k s.length := ⟨_, rfl⟩
        obtain ⟨j, hj⟩ : ∃ j, j = min (k + v.length) s.length := ⟨_, rfl⟩
        have HPB := Lib.hid (Tx.putB_pieces s v k m hm)
        have hmI : min (k : Int) (s.length : Int) = m := by omega
        have hjI : min ((k : Int) + v.length) (s.length : Int) = j := by omega
        have hmk : m ≤ k := by omega
        have hml : m ≤ s.length := by omega
        have hjl : j ≤ s.length := by omega
        have hk300 : (k : Int) ≤ 300 := by omega
        have hx1 : (⟨s.toArray⟩ : ByteArray).extract 0 m = ⟨(s.take m).toArray⟩ := by rw [sub_str s 0 m (by omega) hml]; rfl
        have hx2 : (⟨s.toArray⟩ : ByteArray).extract j s.length = ⟨(s.drop j).toArray⟩ := by rw [sub_str s j s.length hjl (Nat.le_refl _), List.take_length]
        have l1 : (s.take m).length = m := by rw [List.length_take]; omega
        have l2 : (s.drop j).length ≤ 1000000 := by rw [List.length_drop]; omega
        obtain ⟨P1, hP1⟩ : ∃ P1, s.take m = P1 := ⟨_, rfl⟩
        obtain ⟨P4, hP4⟩ : ∃ P4, s.drop j = P4 := ⟨_, rfl⟩
        rw [hP1] at l1 hx1
        rw [hP4] at l2 hx2
        have HP : Hid (Tx.putB s k v = [] ++ P1 ++ List.replicate (k - m) 0 ++ v ++ P4) := Lib.hid (by rw [HPB.out, hP1, ← hj, hP4, List.nil_append])
        obtain ⟨c, hc⟩ : ∃ c, k - m = c := ⟨_, rfl⟩
        have hcI : (k : Int) - (m : Int) = c := by omega
        have hc3 : c ≤ 300 := by omega
        rw [hc] at HP
        obtain ⟨Z, hZ⟩ : ∃ Z : List UInt8, List.replicate c 0 = Z := ⟨_, rfl⟩
        have lZ : Z.length = c := by rw [← hZ, List.length_replicate]
        obtain ⟨L3, hL3⟩ : ∃ L3, [] ++ P1 ++ Z ++ v = L3 := ⟨_, rfl⟩
        have l3 : L3.length = k + v.length := by rw [← hL3]; simp only [List.length_append, List.length_nil]; omega
        rw [hZ, hL3] at HP
        have HZ := Lib.hid (fun W => zeros_any c W (by omega))
        rw [hZ] at HZ
        have HL3 := Lib.hid hL3
        have HLs : Hid (P1.length = m ∧ Z.length = c ∧ L3.length = k + v.length ∧ P4.length ≤ 1000000 ∧ m ≤ k ∧ k ≤ 300 ∧ c ≤ 300 ∧ v.length ≤ 300) := Lib.hid ⟨l1, lZ, l3, l2, hmk, by omega, hc3, by omega⟩
        obtain ⟨W1, hW1⟩ : ∃ W1, w.alloc (.cells #[.pointer none, .slice none 0 0] 46) = W1 := ⟨_, rfl⟩
        have HW1 := Lib.hid hW1
        have HB1 : Hid (BF w.heap.size w.heap.size [] W1 ∧ Below w.heap.size w W1) := Lib.hid ⟨by rw [← hW1]; exact BF.new w, by rw [← hW1]; exact (Below.refl _ w).alloc (Nat.le_refl _) _⟩
        clear hS HPB hP1 hP4 hm hj hv0 a0 a1 hc hZ hL3 lZ hW1
        go_enter Tryd.func9, Tryd.ntmps9
        go_upto_region 6 with (fail)
        rw [show w.alloc (.cells #[.pointer none, .slice none 0 0] 46) = W1 from HW1.out]
        clear HW1
        go_wp2_with fail
        refine (bwrite_any P1 HB1.out.1 (by have := HLs.out; simp only [List.length_nil]; omega) HB1.out.2.size).mono ?_
        rintro e w2 ⟨rfl, hf, hb⟩
        have HB2 : Hid (BF w.heap.size w.heap.size ([] ++ P1) w2 ∧ Below w.heap.size w w2) := Lib.hid ⟨hf, HB1.out.2.trans hb⟩
        clear hf hb
        go_wp2_with fail
        refine (blen_any HB2.out.1).mono ?_
        rintro e w3 ⟨rfl, rfl⟩
        rw [List.nil_append]
        go_wp2_with fail
        refine (HZ.out _).mono ?_
        rintro e w3 ⟨rfl, hb⟩
        have HB3 : Hid (BF w.heap.size w.heap.size ([] ++ P1) w3 ∧ Below w.heap.size w w3) := Lib.hid ⟨HB2.out.1.later hb, HB2.out.2.trans (hb.mono HB2.out.2.size)⟩
        clear hb
        go_wp2_with fail
        refine (bwrite_any Z HB3.out.1 (by have := HLs.out; simp only [List.length_append, List.length_nil]; omega) HB3.out.2.size).mono ?_
        rintro e w4 ⟨rfl, hf, hb⟩
        have HB4 : Hid (BF w.heap.size w.heap.size ([] ++ P1 ++ Z) w4 ∧ Below w.heap.size w w4) := Lib.hid ⟨hf, HB3.out.2.trans hb⟩
        clear hf hb
        go_wp2_with fail
        refine (bwrite_any v HB4.out.1 (by have := HLs.out; simp only [List.length_append, List.length_nil]; omega) HB4.out.2.size).mono ?_
        rintro e w5 ⟨rfl, hf, hb⟩
        rw [HL3.out] at hf
        have HB5 : Hid (BF w.heap.size w.heap.size L3 w5 ∧ Below w.heap.size w w5) := Lib.hid ⟨hf, HB4.out.2.trans hb⟩
        clear hf hb
        go_wp2_with fail
        refine (blen_any HB5.out.1).mono ?_
        rintro e w6 ⟨rfl, rfl⟩
        go_wp2_with fail
        refine (bwrite_any P4 HB5.out.1 (by have := HLs.out; omega) HB5.out.2.size).mono ?_
        rintro e w6 ⟨rfl, hf, hb⟩
        have HB6 : Hid (BF w.heap.size w.heap.size (L3 ++ P4) w6 ∧ Below w.heap.size w w6) := Lib.hid ⟨hf, HB5.out.2.trans hb⟩
        clear hf hb
        go_wp2_with fail
        refine (bstring_any HB6.out.1 HB6.out.2.size).mono ?_
        rintro e w7 ⟨rfl, hb⟩
        have HB7 := Lib.hid (HB6.out.2.trans hb)
        clear hb
        go_wp2_with fail
        go_ret2
        exact ⟨ret_sb (by rw [HR.out, HP.out]), HB7.out⟩
end Go.Proofs.YtdhcgclchdnmfaaDoor
