/- The contract of the reference's Texts. -/
import Derived.Test.YtekdmnecjgpokaaWds
namespace Go.Proofs.Ytekdmnecjgpokaa
open Go.RowKit Go.Shelf
set_option linter.unusedVariables false
set_option linter.unusedSimpArgs false

theorem eq_of_getD {α : Type} {d : α} {l m : List α} (hl : l.length = m.length) (h : ∀ k, k < l.length → l.getD k d = m.getD k d) : l = m := by
  apply List.ext_getElem hl
  intro i h1 h2
  have := h i h1
  rwa [getD_eq h1, getD_eq h2] at this

set_option maxRecDepth 100000 in
set_option maxHeartbeats 2000000 in
theorem texts_len (a b : Option Addr) (n m c d : Nat) (w : World) (h : n ≠ m) (hn : n ≤ 9223372036854775807) (hm : m ≤ 9223372036854775807) :
    Calls Try.prog 10 #[.slice a n c, .slice b m d] w fun e W' => e = .returned (.bool false) ∧ Below w.heap.size w W' := by
  have h1 : ((n : Int) != (m : Int)) = true := by rw [bne_iff_ne]; omega
  have h2 : (n : Int) ≤ 9223372036854775807 := by omega
  have h3 : (m : Int) ≤ 9223372036854775807 := by omega
  go_enter Try.func10, Try.ntmps10
  go_wp2
  go_ret
  exact ⟨rfl, Below.refl _ _⟩

set_option maxRecDepth 100000 in
set_option maxHeartbeats 2000000 in
theorem texts_same (a b : Option Addr) (c d : Nat) (ws ys : List (List UInt8)) (w : World) (hl : ws.length = ys.length) (hA : Wds w a c ws) (hB : Wds w b d ys) :
    Calls Try.prog 10 #[.slice a ws.length c, .slice b ws.length d] w fun e W' => e = .returned (.bool (decide (ws = ys))) ∧ Below w.heap.size w W' := by
  have hn : ws.length ≤ 9223372036854775807 := Nat.le_trans hA.1 hA.2.1
  have hnI : (ws.length : Int) ≤ 9223372036854775807 := by omega
  have HA := Lib.hid hA
  have HB := Lib.hid hB
  have HL := Lib.hid hl
  have h1 : ((ws.length : Int) != (ws.length : Int)) = false := by simp
  clear hA hB hl
  go_enter Try.func10, Try.ntmps10
  go_wp2
  go_loopw [4, 5] (fun r i wr => ∃ k : Nat, k ≤ ws.length ∧ r = .bool false ∧ i = .int .i64 k ∧ Hid (∀ j, j < k → ws.getD j [] = ys.getD j []) ∧ Hid (Below w.heap.size w wr)) (fun _ i _ => ws.length - (intOf i).toNat)
  case atStart => exact ⟨0, Nat.zero_le _, rfl, rfl, Lib.hid (fun j h => by omega), Lib.hid (Below.refl _ _)⟩
  case round =>
    obtain ⟨k, hk, rfl, rfl, HJ, HK⟩ := hrel
    by_cases hlt : k < ws.length
    · obtain ⟨b1, o1, rfl, hb1, hc1⟩ := HA.out.get (by omega)
      obtain ⟨b2, o2, rfl, hb2, hc2⟩ := HB.out.get (by have := HL.out; omega)
      have q1 := (HK.out.cell (p := ⟨b1, o1 + k, none⟩) hb1).trans (hc1 k hlt)
      have q2 := (HK.out.cell (p := ⟨b2, o2 + k, none⟩) hb2).trans (hc2 k (by have := HL.out; omega))
      have k0 : (0 : Int) ≤ (k : Int) := by omega
      have k1 : (k : Int) < (ws.length : Int) := by omega
      have kT : ((k : Int)).toNat = k := by omega
      have HX := Lib.hid (show ws.getD k [] = ys.getD k [] → ∀ j, j < k + 1 → ws.getD j [] = ys.getD j [] from fun h j hj => by
        rcases Nat.lt_or_ge j k with h' | h'
        · exact HJ.out j h'
        · obtain rfl : j = k := by omega
          exact h)
      have HZ := Lib.hid (show ws.getD k [] ≠ ys.getD k [] → decide (ws = ys) = false from fun h => by rw [decide_eq_false_iff_not]; intro e; exact h (by rw [e]))
      clear hc1 hc2
      generalize ws.getD k [] = x at *
      generalize ys.getD k [] = y at *
      by_cases hxy : x = y
      · have HX2 := Lib.hid (HX.out hxy)
        have hne : (x != y) = false := by simp [hxy]
        have hne2 : (x == y) = true := by simp [hxy]
        clear hxy
        go_wp2
        go_quiet (fail)
        go_wp2
        go_roundw
        case rel => exact ⟨k + 1, by omega, rfl, by go_num, HX2, Lib.hid (below_drewN HK.out _)⟩
        case measure => simp [intOf]; omega
      · have HZ2 := Lib.hid (HZ.out hxy)
        have hne : (x != y) = true := by simp [hxy]
        have hne2 : (x == y) = false := by simp [hxy]
        clear hxy
        go_wp2
        go_quiet (fail)
        go_wp2
        go_ret
        exact ⟨by rw [HZ2.out]; rfl, below_drewN HK.out _⟩
    · obtain rfl : k = ws.length := by omega
      have HE := Lib.hid (show decide (ws = ys) = true from by rw [decide_eq_true_eq]; exact eq_of_getD HL.out HJ.out)
      go_wp2
      go_ret
      exact ⟨by rw [HE.out]; rfl, HK.out⟩

theorem texts_any (a b : Option Addr) (c d : Nat) (ws ys : List (List UInt8)) (w : World) (hA : Wds w a c ws) (hB : Wds w b d ys) :
    Calls Try.prog 10 #[.slice a ws.length c, .slice b ys.length d] w fun e W' => e = .returned (.bool (decide (ws = ys))) ∧ Below w.heap.size w W' := by
  by_cases hl : ws.length = ys.length
  · have := texts_same a b c d ws ys w hl hA hB
    rwa [show (.slice b ws.length d : Value) = .slice b ys.length d by rw [hl]] at this
  · rw [show decide (ws = ys) = false by rw [decide_eq_false_iff_not]; rintro rfl; exact hl rfl]
    exact texts_len a b _ _ c d w hl (Nat.le_trans hA.1 hA.2.1) (Nat.le_trans hB.1 hB.2.1)

end Go.Proofs.Ytekdmnecjgpokaa
