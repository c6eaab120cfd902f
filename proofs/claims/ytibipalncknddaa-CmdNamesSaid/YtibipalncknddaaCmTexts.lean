/- The contracts of the reference's Texts and of the statements' Great. -/
import Derived.Test.YtibipalncknddaaCmBase
namespace Go.Proofs.Ytibipalncknddaa
open Go.RowKit Go.Shelf

theorem below_drewN {B : Nat} {a w : World} (h : Below B a w) (n : Nat) : Below B a (w.drewN n) := ⟨h.os, h.tape, h.output, h.size, h.block⟩

theorem eq_take {ws ys : List (List UInt8)} (hl : ws.length = ys.length) (h : ∀ k, k < ws.length → ws.getD k [] = ys.getD k []) : ws = ys := by
  apply List.ext_getElem hl
  intro i h1 h2
  have := h i h1
  rwa [Cm.getD_eq h1, Cm.getD_eq h2] at this

set_option maxRecDepth 100000 in
set_option maxHeartbeats 2000000 in
theorem texts_len (a b : Option Addr) (n m c d : Nat) (w : World) (h : n ≠ m) (hn : n ≤ 9223372036854775807) (hm : m ≤ 9223372036854775807) :
    Calls Try.prog 13 #[.slice a n c, .slice b m d] w fun e W' => e = .returned (.bool false) ∧ Below w.heap.size w W' := by
  have h1 : ((n : Int) != (m : Int)) = true := by rw [bne_iff_ne]; omega
  have h2 : (n : Int) ≤ 9223372036854775807 := by omega
  have h3 : (m : Int) ≤ 9223372036854775807 := by omega
  go_enter Try.func13, Try.ntmps13
  go_wp2
  go_ret
  exact ⟨rfl, Below.refl _ _⟩

set_option maxRecDepth 100000 in
set_option maxHeartbeats 2000000 in
theorem texts_any (a b : Option Addr) (c d : Nat) (ws ys : List (List UInt8)) (w : World) (hl : ws.length = ys.length) (hA : Wds w a c ws) (hB : Wds w b d ys) :
    Calls Try.prog 13 #[.slice a ws.length c, .slice b ws.length d] w fun e W' => e = .returned (.bool (decide (ws = ys))) ∧ Below w.heap.size w W' := by
  have hn : ws.length ≤ 9223372036854775807 := Nat.le_trans hA.1 hA.2.1
  have hnI : (ws.length : Int) ≤ 9223372036854775807 := by omega
  have HA := Lib.hid hA
  have HB := Lib.hid hB
  have HL := Lib.hid hl
  have h1 : ((ws.length : Int) != (ws.length : Int)) = false := by simp
  clear hA hB hl
  go_enter Try.func13, Try.ntmps13
  go_wp2
  go_loopw [4, 5] (fun r i wr => ∃ k : Nat, k ≤ ws.length ∧ r = .bool false ∧ i = .int .i64 k ∧ Hid (∀ j, j < k → ws.getD j [] = ys.getD j []) ∧ Hid (Below w.heap.size w wr)) (fun _ i _ => ws.length - (intOf i).toNat)
  case atStart => exact ⟨0, Nat.zero_le _, rfl, rfl, Lib.hid (fun j h => by omega), Lib.hid (Below.refl _ _)⟩
  case round =>
    obtain ⟨k, hk, rfl, rfl, HJ, HK⟩ := hrel
    by_cases hlt : k < ws.length
    · obtain ⟨b1, o1, rfl, hb1, hc1⟩ := HA.out.get (by omega)
      obtain ⟨b2, o2, rfl, hb2, hc2⟩ := HB.out.get (by have := HL.out; omega)
      have q1 := (HK.out.cell (p := ⟨b1, o1 + k, none⟩) hb1).trans (hc1 k hlt)
      have q2 := (HK.out.cell (p := ⟨b2, o2 + k, none⟩) hb2).trans (hc2 k (by have := HL.out; omega))
      have k0 : (0 : Int) ≤ (k : Int) := by omega
      have k1 : (k : Int) < (ws.length : Int) := by omega
      have kT : ((k : Int)).toNat = k := by omega
      have HX := Lib.hid (show ws.getD k [] = ys.getD k [] → ∀ j, j < k + 1 → ws.getD j [] = ys.getD j [] from fun h j hj => by
        rcases Nat.lt_or_ge j k with h' | h'
        · exact HJ.out j h'
        · obtain rfl : j = k := by omega
          exact h)
      have HZ := Lib.hid (show ws.getD k [] ≠ ys.getD k [] → decide (ws = ys) = false from fun h => by rw [decide_eq_false_iff_not]; intro e; exact h (by rw [e]))
      clear hc1 hc2
      generalize ws.getD k [] = x at *
      generalize ys.getD k [] = y at *
      by_cases hxy : x = y
      · have hne : (x != y) = false := by simp [hxy]
        have hne2 : (x == y) = true := by simp [hxy]
        have HX2 := Lib.hid (HX.out hxy)
        clear hxy
        go_wp2
        go_quiet (fail)
        go_wp2
        go_roundw
        case rel => exact ⟨k + 1, by omega, rfl, by go_num, HX2, Lib.hid (below_drewN HK.out _)⟩
        case measure => simp [intOf]; omega
      · have hne : (x != y) = true := by simp [hxy]
        have hne2 : (x == y) = false := by simp [hxy]
        have HZ2 := Lib.hid (HZ.out hxy)
        clear hxy
        go_wp2
        go_quiet (fail)
        go_wp2
        go_ret
        exact ⟨by rw [HZ2.out]; rfl, below_drewN HK.out _⟩
    · obtain rfl : k = ws.length := by omega
      have HE := Lib.hid (show decide (ws = ys) = true from by rw [decide_eq_true_eq]; exact eq_take HL.out HJ.out)
      go_wp2
      go_ret
      exact ⟨by rw [HE.out]; rfl, HK.out⟩

set_option maxRecDepth 100000 in
set_option maxHeartbeats 2000000 in
theorem great_any (a : Option Addr) (c : Nat) (ws : List (List UInt8)) (w : World) (hA : Wds w a c ws) :
    Calls Try.prog 7 #[.slice a ws.length c] w fun e W' => (e = .returned (.bool true) ∨ (e = .returned (.bool false) ∧ ws.length ≤ 120)) ∧ w = W' := by
  have hn : ws.length ≤ 9223372036854775807 := Nat.le_trans hA.1 hA.2.1
  have hnI : (ws.length : Int) ≤ 9223372036854775807 := by omega
  have HA := Lib.hid hA
  have HLn := Lib.hid (fun k => hA.len (k := k))
  clear hA
  go_enter Try.func7, Try.ntmps7
  go_wp2
  go_loop [2, 3] (fun r i => ∃ k : Nat, k ≤ ws.length ∧ k ≤ 130 ∧ r = .bool false ∧ i = .int .i64 k) (fun _ i => 130 - (intOf i).toNat)
  case atStart => exact ⟨0, Nat.zero_le _, by omega, rfl, rfl⟩
  case round =>
    obtain ⟨k, hk, hk2, rfl, rfl⟩ := hrel
    by_cases hlt : k < ws.length
    · have k1 : (k : Int) < (ws.length : Int) := by omega
      have k0 : (0 : Int) ≤ (k : Int) := by omega
      by_cases h130 : k < 130
      · have k3 : (k : Int) < 130 := by omega
        obtain ⟨b1, o1, rfl, hb1, hc1⟩ := HA.out.get (by omega)
        have q1 := hc1 k hlt
        have hx := HLn.out k
        clear hc1
        generalize ws.getD k [] = x at *
        by_cases hbig : 500 < x.length
        · have b3 : (500 : Int) < (x.length : Int) := by omega
          go_wp2
          go_ret
          exact ⟨.inl rfl, rfl⟩
        · have b3 : (x.length : Int) ≤ 500 := by omega
          go_wp2
          go_round
          case rel => exact ⟨k + 1, by omega, by omega, rfl, by go_num⟩
          case measure => simp [intOf]; omega
      · have k3 : (130 : Int) ≤ (k : Int) := by omega
        have k4 : (120 : Int) < (ws.length : Int) := by omega
        go_wp2
        go_ret
        exact ⟨.inl rfl, rfl⟩
    · have k1 : (ws.length : Int) ≤ (k : Int) := by omega
      by_cases h120 : 120 < ws.length
      · have k4 : (120 : Int) < (ws.length : Int) := by omega
        go_wp2
        go_ret
        exact ⟨.inl rfl, rfl⟩
      · have k4 : decide ((120 : Int) < (ws.length : Int)) = false := by rw [decide_eq_false_iff_not]; omega
        go_wp2
        go_ret
        exact ⟨.inr ⟨by first | rfl | (rw [← k4]; rfl), by omega⟩, rfl⟩

end Go.Proofs.Ytibipalncknddaa
