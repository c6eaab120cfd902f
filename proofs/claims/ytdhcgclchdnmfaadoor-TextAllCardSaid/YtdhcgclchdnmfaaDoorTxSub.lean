/- The contracts of the developers' index and Sub, and of strings.Clone. -/
import Derived.Test.YtdhcgclchdnmfaaDoorTxBase
import Derived.Test.YtdhcgclchdnmfaaDoorShelf
namespace Go.Proofs.YtdhcgclchdnmfaaDoor
open Go.RowKit Go.Shelf
set_option linter.unusedVariables false
set_option linter.unusedSimpArgs false

set_option maxHeartbeats 1000000 in
theorem clone_any (l : List UInt8) (w : World) (h : l.length ≤ 281474976710656) : Calls Tryd.prog 18 #[.string ⟨l.toArray⟩] w fun e w' => e = .returned (.string ⟨l.toArray⟩) ∧ Below w.heap.size w w' := by
  have hs : (⟨l.toArray⟩ : ByteArray).size = l.length := by simp [ByteArray.size]
  have hc : Calls Tryd.prog 27 #[.string ⟨l.toArray⟩] w fun e w' => e = .returned (.string ⟨l.toArray⟩) ∧ Below w.heap.size w w' := Tryd.stringslite_Clone ⟨l.toArray⟩ w (by omega)
  have HC := Lib.hid hc
  clear hc hs
  go_enter Tryd.func18, Tryd.ntmps18
  go_wp2_with (go_at_call 27; refine HC.out.mono ?_; rintro e w1 ⟨rfl, hb⟩; have HB := Lib.hid hb; clear hb)
  go_ret
  exact ⟨rfl, HB.out⟩

def idxI (n a : Int) : Int := if a < 0 then a + n else a

set_option maxHeartbeats 1000000 in
theorem index_any (s : List UInt8) (a : Int) (w : World) (hl : s.length ≤ 1000000) (a0 : -9223372036854775808 ≤ a) (a1 : a ≤ 9223372036854775807) :
    Calls Tryd.prog 24 #[.string ⟨s.toArray⟩, .int .i64 a] w fun e W => e = .returned (.int .i64 (idxI s.length a)) ∧ w = W := by
  have hl2 : (s.length : Int) ≤ 1000000 := by omega
  by_cases h : a < 0
  · have HE := Lib.hid (show idxI s.length a = a + s.length by unfold idxI; rw [if_pos h])
    go_enter Tryd.func24, Tryd.ntmps24
    go_wp2
    go_ret
    exact ⟨by rw [HE.out]; rfl, rfl⟩
  · have HE := Lib.hid (show idxI s.length a = a by unfold idxI; rw [if_neg h])
    go_enter Tryd.func24, Tryd.ntmps24
    go_wp2
    go_ret
    exact ⟨by rw [HE.out]; rfl, rfl⟩

set_option maxRecDepth 100000 in
set_option maxHeartbeats 4000000 in
theorem sub_any (s : List UInt8) (a b : Int) (w : World) (hl : s.length ≤ 1000000) (a0 : -9223372036854775808 ≤ a) (a1 : a ≤ 9223372036854775807) (b0 : -9223372036854775808 ≤ b) (b1 : b ≤ 9223372036854775807) :
    Calls Tryd.prog 13 #[.string ⟨s.toArray⟩, .int .i64 a, .int .i64 b] w fun e W => e = .returned (.string ⟨(Tx.subS s a b).toArray⟩) ∧ Below w.heap.size w W := by
  have hia := index_any s a w hl a0 a1
  have hib := index_any s b w hl b0 b1
  have hA : max (idxI s.length a) 0 = Tx.cutA s.length a := by unfold idxI Tx.cutA; split <;> omega
  have hB : min (idxI s.length b) ((s.length : Int) - 1) = Tx.cutB s.length b := by unfold idxI Tx.cutB; split <;> omega
  have hX : -9223372036854775808 ≤ idxI s.length a ∧ idxI s.length a ≤ 9223372036854775807 := by unfold idxI; split <;> omega
  have hY : -9223372036854775808 ≤ idxI s.length b ∧ idxI s.length b ≤ 9223372036854775807 := by unfold idxI; split <;> omega
  have hS := show Tx.subS s a b = (if Tx.cutB s.length b < Tx.cutA s.length a then [] else (s.take (Tx.cutB s.length b + 1).toNat).drop (Tx.cutA s.length a).toNat) from rfl
  obtain ⟨hX0, hX1⟩ := hX
  obtain ⟨hY0, hY1⟩ := hY
  generalize idxI s.length a = X at *
  generalize idxI s.length b = Y at *
  generalize Tx.cutA s.length a = i at *
  generalize Tx.cutB s.length b = k at *
  have i0 : 0 ≤ i := by omega
  have i1 : i ≤ 9223372036854775807 := by omega
  have k0 : -9223372036854775808 ≤ k := by omega
  have k1 : k ≤ (s.length : Int) - 1 := by omega
  have hl2 : (s.length : Int) ≤ 1000000 := by omega
  have HIA := Lib.hid hia
  have HIB := Lib.hid hib
  have HS := Lib.hid hS
  clear hia hib hS
  by_cases hlt : k < i
  · rw [show Tx.subS s a b = [] by rw [HS.out, if_pos hlt]]
    go_enter Tryd.func13, Tryd.ntmps13
    go_upto_region 2 with (first
      | (go_at_call 24; refine HIA.out.mono ?_; rintro e w1 ⟨rfl, rfl⟩))
    go_upto_region 3 with (first
      | (go_at_call 24; refine HIB.out.mono ?_; rintro e w1 ⟨rfl, rfl⟩))
    go_wp2_with fail
    go_ret
    exact ⟨rfl, Below.refl _ _⟩
  · obtain ⟨i', rfl⟩ := Int.eq_ofNat_of_zero_le i0
    obtain ⟨k', rfl⟩ := Int.eq_ofNat_of_zero_le (show 0 ≤ k by omega)
    have hss : Tx.subS s a b = (s.take (k' + 1)).drop i' := by rw [HS.out, if_neg hlt, Int.toNat_natCast, show ((k' : Int) + 1).toNat = k' + 1 by omega]
    rw [hss]
    have hx := sub_str s i' (k' + 1) (by omega) (by omega)
    have hik : (i' : Int) ≤ (k' : Int) + 1 := by omega
    have hkl : (k' : Int) + 1 ≤ (s.length : Int) := by omega
    have HX := Lib.hid hx
    have h1 : (i' : Int) ≤ (k' : Int) := by omega
    have HCL : Hid (∀ W, Calls Tryd.prog 18 #[.string ((⟨s.toArray⟩ : ByteArray).extract i' (k' + 1))] W fun e w' => e = .returned (.string ⟨((s.take (k' + 1)).drop i').toArray⟩) ∧ Below W.heap.size W w') := Lib.hid (fun W => by
      rw [hx]
      exact clone_any _ W (by rw [List.length_drop, List.length_take]; omega))
    clear hss hx hlt
    go_enter Tryd.func13, Tryd.ntmps13
    go_upto_region 2 with (first
      | (go_at_call 24; refine HIA.out.mono ?_; rintro e w1 ⟨rfl, rfl⟩))
    go_upto_region 3 with (first
      | (go_at_call 24; refine HIB.out.mono ?_; rintro e w1 ⟨rfl, rfl⟩))
    go_wp2_with (go_at_call 18; refine (HCL.out _).mono ?_; rintro e w1 ⟨rfl, hb⟩; have HBL := Lib.hid hb; clear hb)
    go_ret
    exact ⟨rfl, HBL.out⟩
end Go.Proofs.YtdhcgclchdnmfaaDoor
