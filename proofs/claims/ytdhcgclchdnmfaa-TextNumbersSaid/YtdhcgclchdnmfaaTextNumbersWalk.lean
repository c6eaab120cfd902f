/- The walk of the law TextNumbers. -/
import Derived.Test.YtdhcgclchdnmfaaTxNumber
import Derived.Test.YtdhcgclchdnmfaaTxAwake
import Derived.Test.YtdhcgclchdnmfaaTxWrong
import Derived.Test.YtdhcgclchdnmfaaDig
namespace Go.Proofs.Ytdhcgclchdnmfaa
open Go.RowKit Go.Shelf
set_option linter.unusedVariables false
set_option linter.unusedSimpArgs false

theorem str_app (l m : List UInt8) : (⟨l.toArray⟩ : ByteArray) ++ ⟨m.toArray⟩ = ⟨(l ++ m).toArray⟩ := by
  apply ByteArray.ext
  simp
theorem dec_len {n : Int} (h1 : -9223372036854775808 ≤ n) (h2 : n ≤ 9223372036854775807) : (Dig.dec n).length ≤ 20 := by
  unfold Dig.dec
  split
  · have := Dig.digs_len20 (u := (-n).toNat) (by omega)
    simp only [List.length_cons]; omega
  · have := Dig.digs_len20 (u := n.toNat) (by omega)
    omega

set_option maxRecDepth 100000 in
set_option maxHeartbeats 8000000 in
theorem textNumbers_walk (n how : Int) (w : World) (n0 : -9223372036854775808 ≤ n) (n1 : n ≤ 9223372036854775807) (h0 : 0 ≤ how) (h1 : how ≤ 255) :
    Calls Try.prog 3 #[.int .i64 n, .int .u8 how] w fun e W => e = .returned (.bool true) ∧ Below w.heap.size w W := by
  have hd := fun W => digits_any n W n0 n1
  have hlen := dec_len n0 n1
  have hnum := Tx.num_dec n n0 n1
  have hne := Tx.dec_ne n
  generalize Dig.dec n = D at *
  have hnb := fun W => number_any D W (by omega)
  rw [hnum] at hnb
  simp only at hnb
  have hw : ∀ k, ∃ X : List UInt8, Tx.wrong k D = X ∧ X.length ≤ 30 ∧ ∀ W, Calls Try.prog 7 #[.string ⟨X.toArray⟩] W fun e W' => e = .returned (.tuple #[.int .i64 0, .bool false]) ∧ W = W' := fun k => ⟨_, rfl, by have := Tx.wrong_len k D; omega, fun W => by
    have := number_any (Tx.wrong k D) W (by have := Tx.wrong_len k D; omega)
    rwa [Tx.wrong_no k D hne] at this⟩
  obtain ⟨X0, e0, l0, c0⟩ := hw 0
  obtain ⟨X1, e1, l1, c1⟩ := hw 1
  obtain ⟨X2, e2, l2, c2⟩ := hw 2
  obtain ⟨X3, e3, l3, c3⟩ := hw 3
  obtain ⟨X4, e4, l4, c4⟩ := hw 4
  obtain ⟨X5, e5, l5, c5⟩ := hw 5
  obtain ⟨X6, e6, l6, c6⟩ := hw 6
  obtain ⟨X7, e7, l7, c7⟩ := hw 7
  obtain ⟨X8, e8, l8, c8⟩ := hw 8
  have s0 : (⟨#[43]⟩ : ByteArray) ++ ⟨D.toArray⟩ = ⟨X0.toArray⟩ := by rw [← e0]; exact str_app [43] D
  have s1 : (⟨#[32]⟩ : ByteArray) ++ ⟨D.toArray⟩ = ⟨X1.toArray⟩ := by rw [← e1]; exact str_app [32] D
  have s2 : (⟨D.toArray⟩ : ByteArray) ++ ⟨#[32]⟩ = ⟨X2.toArray⟩ := by rw [← e2]; exact str_app D [32]
  have s3 : (⟨#[48]⟩ : ByteArray) ++ ⟨D.toArray⟩ = ⟨X3.toArray⟩ := by rw [← e3]; exact str_app [48] D
  have s4 : (⟨#[45, 48]⟩ : ByteArray) ++ ⟨D.toArray⟩ = ⟨X4.toArray⟩ := by rw [← e4]; exact str_app [45, 48] D
  have s5 : (⟨D.toArray⟩ : ByteArray) ++ ⟨#[46]⟩ = ⟨X5.toArray⟩ := by rw [← e5]; exact str_app D [46]
  have s6 : (⟨#[45, 45]⟩ : ByteArray) ++ ⟨D.toArray⟩ = ⟨X6.toArray⟩ := by rw [← e6]; exact str_app [45, 45] D
  have s7 : (⟨D.toArray⟩ : ByteArray) ++ ⟨#[95, 49]⟩ = ⟨X7.toArray⟩ := by rw [← e7]; exact str_app D [95, 49]
  have s8 : (⟨#[48, 120]⟩ : ByteArray) ++ ⟨D.toArray⟩ = ⟨X8.toArray⟩ := by rw [← e8]; exact str_app [48, 120] D
  clear e0 e1 e2 e3 e4 e5 e6 e7 e8 hw
  have HD := Lib.hid hd
  have HNB := Lib.hid hnb
  have HCs := Lib.hid (And.intro c0 (And.intro c1 (And.intro c2 (And.intro c3 (And.intro c4 (And.intro c5 (And.intro c6 (And.intro c7 c8))))))))
  have hD2 : (D.length : Int) ≤ 20 := by omega
  clear hd hnb hnum hne c0 c1 c2 c3 c4 c5 c6 c7 c8
  have hk : how % 9 = 0 ∨ how % 9 = 1 ∨ how % 9 = 2 ∨ how % 9 = 3 ∨ how % 9 = 4 ∨ how % 9 = 5 ∨ how % 9 = 6 ∨ how % 9 = 7 ∨ how % 9 = 8 := by omega
  rcases hk with hk | hk | hk | hk | hk | hk | hk | hk | hk
  · go_enter Try.func3, Try.ntmps3
    go_upto_region 2 with (first
      | (go_at_call 6; refine (HD.out _).mono ?_; rintro e w1 ⟨rfl, hb⟩; have HB1 := Lib.hid hb; clear hb))
    go_upto_region 3 with (first
      | (go_at_call 7; refine (HNB.out _).mono ?_; rintro e w2 ⟨rfl, rfl⟩))
    go_upto_region 4 with (first
      | (go_at_call 7; refine (HCs.out.1 _).mono ?_; rintro e w3 ⟨rfl, rfl⟩))
    go_wp2_with (first
      | (go_at_call 8; refine (awake_any _).mono ?_; rintro e w4 ⟨rfl, hb⟩; have HB4 := Lib.hid hb; clear hb))
    go_ret
    exact ⟨rfl, (HB1.out.alloc HB1.out.size _).trans (HB4.out.mono (by simp; have := HB1.out.size; omega))⟩
  · go_enter Try.func3, Try.ntmps3
    go_upto_region 2 with (first
      | (go_at_call 6; refine (HD.out _).mono ?_; rintro e w1 ⟨rfl, hb⟩; have HB1 := Lib.hid hb; clear hb))
    go_upto_region 3 with (first
      | (go_at_call 7; refine (HNB.out _).mono ?_; rintro e w2 ⟨rfl, rfl⟩))
    go_upto_region 4 with (first
      | (go_at_call 7; refine (HCs.out.2.1 _).mono ?_; rintro e w3 ⟨rfl, rfl⟩))
    go_wp2_with (first
      | (go_at_call 8; refine (awake_any _).mono ?_; rintro e w4 ⟨rfl, hb⟩; have HB4 := Lib.hid hb; clear hb))
    go_ret
    exact ⟨rfl, (HB1.out.alloc HB1.out.size _).trans (HB4.out.mono (by simp; have := HB1.out.size; omega))⟩
  · go_enter Try.func3, Try.ntmps3
    go_upto_region 2 with (first
      | (go_at_call 6; refine (HD.out _).mono ?_; rintro e w1 ⟨rfl, hb⟩; have HB1 := Lib.hid hb; clear hb))
    go_upto_region 3 with (first
      | (go_at_call 7; refine (HNB.out _).mono ?_; rintro e w2 ⟨rfl, rfl⟩))
    go_upto_region 4 with (first
      | (go_at_call 7; refine (HCs.out.2.2.1 _).mono ?_; rintro e w3 ⟨rfl, rfl⟩))
    go_wp2_with (first
      | (go_at_call 8; refine (awake_any _).mono ?_; rintro e w4 ⟨rfl, hb⟩; have HB4 := Lib.hid hb; clear hb))
    go_ret
    exact ⟨rfl, (HB1.out.alloc HB1.out.size _).trans (HB4.out.mono (by simp; have := HB1.out.size; omega))⟩
  · go_enter Try.func3, Try.ntmps3
    go_upto_region 2 with (first
      | (go_at_call 6; refine (HD.out _).mono ?_; rintro e w1 ⟨rfl, hb⟩; have HB1 := Lib.hid hb; clear hb))
    go_upto_region 3 with (first
      | (go_at_call 7; refine (HNB.out _).mono ?_; rintro e w2 ⟨rfl, rfl⟩))
    go_upto_region 4 with (first
      | (go_at_call 7; refine (HCs.out.2.2.2.1 _).mono ?_; rintro e w3 ⟨rfl, rfl⟩))
    go_wp2_with (first
      | (go_at_call 8; refine (awake_any _).mono ?_; rintro e w4 ⟨rfl, hb⟩; have HB4 := Lib.hid hb; clear hb))
    go_ret
    exact ⟨rfl, (HB1.out.alloc HB1.out.size _).trans (HB4.out.mono (by simp; have := HB1.out.size; omega))⟩
  · go_enter Try.func3, Try.ntmps3
    go_upto_region 2 with (first
      | (go_at_call 6; refine (HD.out _).mono ?_; rintro e w1 ⟨rfl, hb⟩; have HB1 := Lib.hid hb; clear hb))
    go_upto_region 3 with (first
      | (go_at_call 7; refine (HNB.out _).mono ?_; rintro e w2 ⟨rfl, rfl⟩))
    go_upto_region 4 with (first
      | (go_at_call 7; refine (HCs.out.2.2.2.2.1 _).mono ?_; rintro e w3 ⟨rfl, rfl⟩))
    go_wp2_with (first
      | (go_at_call 8; refine (awake_any _).mono ?_; rintro e w4 ⟨rfl, hb⟩; have HB4 := Lib.hid hb; clear hb))
    go_ret
    exact ⟨rfl, (HB1.out.alloc HB1.out.size _).trans (HB4.out.mono (by simp; have := HB1.out.size; omega))⟩
  · go_enter Try.func3, Try.ntmps3
    go_upto_region 2 with (first
      | (go_at_call 6; refine (HD.out _).mono ?_; rintro e w1 ⟨rfl, hb⟩; have HB1 := Lib.hid hb; clear hb))
    go_upto_region 3 with (first
      | (go_at_call 7; refine (HNB.out _).mono ?_; rintro e w2 ⟨rfl, rfl⟩))
    go_upto_region 4 with (first
      | (go_at_call 7; refine (HCs.out.2.2.2.2.2.1 _).mono ?_; rintro e w3 ⟨rfl, rfl⟩))
    go_wp2_with (first
      | (go_at_call 8; refine (awake_any _).mono ?_; rintro e w4 ⟨rfl, hb⟩; have HB4 := Lib.hid hb; clear hb))
    go_ret
    exact ⟨rfl, (HB1.out.alloc HB1.out.size _).trans (HB4.out.mono (by simp; have := HB1.out.size; omega))⟩
  · go_enter Try.func3, Try.ntmps3
    go_upto_region 2 with (first
      | (go_at_call 6; refine (HD.out _).mono ?_; rintro e w1 ⟨rfl, hb⟩; have HB1 := Lib.hid hb; clear hb))
    go_upto_region 3 with (first
      | (go_at_call 7; refine (HNB.out _).mono ?_; rintro e w2 ⟨rfl, rfl⟩))
    go_upto_region 4 with (first
      | (go_at_call 7; refine (HCs.out.2.2.2.2.2.2.1 _).mono ?_; rintro e w3 ⟨rfl, rfl⟩))
    go_wp2_with (first
      | (go_at_call 8; refine (awake_any _).mono ?_; rintro e w4 ⟨rfl, hb⟩; have HB4 := Lib.hid hb; clear hb))
    go_ret
    exact ⟨rfl, (HB1.out.alloc HB1.out.size _).trans (HB4.out.mono (by simp; have := HB1.out.size; omega))⟩
  · go_enter Try.func3, Try.ntmps3
    go_upto_region 2 with (first
      | (go_at_call 6; refine (HD.out _).mono ?_; rintro e w1 ⟨rfl, hb⟩; have HB1 := Lib.hid hb; clear hb))
    go_upto_region 3 with (first
      | (go_at_call 7; refine (HNB.out _).mono ?_; rintro e w2 ⟨rfl, rfl⟩))
    go_upto_region 4 with (first
      | (go_at_call 7; refine (HCs.out.2.2.2.2.2.2.2.1 _).mono ?_; rintro e w3 ⟨rfl, rfl⟩))
    go_wp2_with (first
      | (go_at_call 8; refine (awake_any _).mono ?_; rintro e w4 ⟨rfl, hb⟩; have HB4 := Lib.hid hb; clear hb))
    go_ret
    exact ⟨rfl, (HB1.out.alloc HB1.out.size _).trans (HB4.out.mono (by simp; have := HB1.out.size; omega))⟩
  · go_enter Try.func3, Try.ntmps3
    go_upto_region 2 with (first
      | (go_at_call 6; refine (HD.out _).mono ?_; rintro e w1 ⟨rfl, hb⟩; have HB1 := Lib.hid hb; clear hb))
    go_upto_region 3 with (first
      | (go_at_call 7; refine (HNB.out _).mono ?_; rintro e w2 ⟨rfl, rfl⟩))
    go_upto_region 4 with (first
      | (go_at_call 7; refine (HCs.out.2.2.2.2.2.2.2.2 _).mono ?_; rintro e w3 ⟨rfl, rfl⟩))
    go_wp2_with (first
      | (go_at_call 8; refine (awake_any _).mono ?_; rintro e w4 ⟨rfl, hb⟩; have HB4 := Lib.hid hb; clear hb))
    go_ret
    exact ⟨rfl, (HB1.out.alloc HB1.out.size _).trans (HB4.out.mono (by simp; have := HB1.out.size; omega))⟩
end Go.Proofs.Ytdhcgclchdnmfaa
