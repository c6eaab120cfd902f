/- The contracts of the reference's functions on lists of spans. -/
import Derived.Test.YtchladbjhodkoaaProg
import Derived.Test.YtchladbjhodkoaaSpPlain
import Derived.WalkKit
import Derived.WalkLawsBesides
import Derived.WalkSpells
import Derived.WalkMore
import Derived.Lib.Hide
import Derived.Outline
import Derived.Below
import Derived.Deep.Cut
import Derived.Deep.CutRange
import Derived.Deep.QuietTactic
import Derived.BigQuiet
import Derived.Laws.StructEq
namespace Go.Proofs.Ytchladbjhodkoaa
open Go.RowKit

/-- What is told of a slice of spans: so many pairs of cells hold these spans; each number fits an int. -/
def Spans (w : World) (a : Option Addr) (cap : Nat) (l : List Sp.S) : Prop :=
  l.length ≤ cap ∧ l.length ≤ 9223372036854775807 ∧ (∀ s ∈ l, -9223372036854775808 ≤ s.1 ∧ s.1 ≤ 9223372036854775807 ∧ -9223372036854775808 ≤ s.2 ∧ s.2 ≤ 9223372036854775807) ∧
  (l = [] ∨ ∃ b off, a = some ⟨b, off, none⟩ ∧ b < w.heap.size ∧ ∀ k, k < l.length → w.cell? ⟨b, off + k * 2, none⟩ = some (.int .i64 (l.getD k (0, 0)).1) ∧ w.cell? ⟨b, off + k * 2 + 1, none⟩ = some (.int .i64 (l.getD k (0, 0)).2))

theorem Spans.later {w w' : World} {a : Option Addr} {cap : Nat} {l : List Sp.S} (h : Spans w a cap l) (hb : Below w.heap.size w w') : Spans w' a cap l := by
  obtain ⟨h0, h1, h2, h3⟩ := h
  refine ⟨h0, h1, h2, ?_⟩
  rcases h3 with h3 | ⟨b, off, ha, hlt, hc⟩
  · exact .inl h3
  · exact .inr ⟨b, off, ha, Nat.lt_of_lt_of_le hlt hb.size, fun k hk => by
      rw [hb.cell (p := ⟨b, off + k * 2, none⟩) hlt, hb.cell (p := ⟨b, off + k * 2 + 1, none⟩) hlt]; exact hc k hk⟩

set_option maxHeartbeats 1000000 in
theorem refHas_some (b off cap : Nat) (l : List Sp.S) (n : Int) (w : World) (hl : l.length ≤ 9223372036854775807) (hc : ∀ k, k < l.length → w.cell? ⟨b, off + k * 2, none⟩ = some (.int .i64 (l.getD k (0, 0)).1) ∧ w.cell? ⟨b, off + k * 2 + 1, none⟩ = some (.int .i64 (l.getD k (0, 0)).2)) (h0 : 0 ≤ n) (h1 : n < 16384) :
    Calls Try.prog 27 #[.slice (some ⟨b, off, none⟩) l.length cap, .int .i64 n] w fun e w' => e = .returned (.bool (Sp.hasB l n)) ∧ w = w' := by
  have HC := Lib.hid hc
  clear hc
  go_enter Try.func27, Try.ntmps27
  go_wp2
  go_loop [4, 5] (fun r i => ∃ k : Nat, k ≤ l.length ∧ r = .bool false ∧ i = .int .i64 k ∧ Hid (Sp.hasB (l.take k) n = false)) (fun _ i => l.length - (intOf i).toNat)
  case atStart => exact ⟨0, Nat.zero_le _, rfl, rfl, Lib.hid (by simp [Sp.hasB])⟩
  case round =>
    obtain ⟨k, hk, rfl, rfl, HK⟩ := hrel
    by_cases hlt : k < l.length
    · obtain ⟨c1, c2⟩ := HC.out k hlt
      generalize hs : l.getD k (0, 0) = s at c1 c2
      obtain ⟨x, y⟩ := s
      have HS := Lib.hid hs
      clear hs
      simp only at c1 c2
      go_wp2
      · have h2 : x ≤ n := by assumption
        have h3 : n ≤ y := by assumption
        have hv : Sp.hasB l n = true := Sp.hasB_of hlt (by rw [HS.out]; simp [Sp.inB]; omega)
        go_ret
        exact ⟨by rw [hv]; rfl, rfl⟩
      · have h3 : y < n := by assumption
        have hv : Sp.hasB (l.take (k + 1)) n = false := by
          rw [Sp.hasB_take_succ hlt, HK.out, HS.out]; simp [Sp.inB]; omega
        go_round
        case rel => exact ⟨k + 1, by omega, rfl, by go_num, Lib.hid hv⟩
        case measure => simp [intOf]; omega
      · have h3 : ¬ x ≤ n := by assumption
        have hv : Sp.hasB (l.take (k + 1)) n = false := by
          rw [Sp.hasB_take_succ hlt, HK.out, HS.out]; simp [Sp.inB]; omega
        go_round
        case rel => exact ⟨k + 1, by omega, rfl, by go_num, Lib.hid hv⟩
        case measure => simp [intOf]; omega
    · obtain rfl : k = l.length := by omega
      have hv : Sp.hasB l n = false := by
        have := HK.out
        rw [List.take_length] at this
        exact this
      go_wp2
      go_ret
      exact ⟨rfl, rfl⟩

set_option maxHeartbeats 1000000 in
theorem refHas_out (a : Option Addr) (len cap : Nat) (n : Int) (w : World) (hl : len ≤ 9223372036854775807) (hn : n < 0 ∨ 16384 ≤ n) :
    Calls Try.prog 27 #[.slice a len cap, .int .i64 n] w fun e w' => e = .returned (.bool false) ∧ w = w' := by
  by_cases h0 : n < 0
  · clear hn
    go_enter Try.func27, Try.ntmps27
    go_wp2
    go_loop [4, 5] (fun r i => ∃ k : Nat, k ≤ len ∧ r = .bool false ∧ i = .int .i64 k) (fun _ i => len - (intOf i).toNat)
    case atStart => exact ⟨0, Nat.zero_le _, rfl, rfl⟩
    case round =>
      obtain ⟨k, hk, rfl, rfl⟩ := hrel
      by_cases hlt : k < len
      · go_wp2
        go_round
        case rel => exact ⟨k + 1, by omega, rfl, by go_num⟩
        case measure => simp [intOf]; omega
      · go_wp2
        go_ret
        exact ⟨rfl, rfl⟩
  · have h1 : ¬ n < 16384 := by omega
    clear hn
    go_enter Try.func27, Try.ntmps27
    go_wp2
    go_loop [4, 5] (fun r i => ∃ k : Nat, k ≤ len ∧ r = .bool false ∧ i = .int .i64 k) (fun _ i => len - (intOf i).toNat)
    case atStart => exact ⟨0, Nat.zero_le _, rfl, rfl⟩
    case round =>
      obtain ⟨k, hk, rfl, rfl⟩ := hrel
      by_cases hlt : k < len
      · go_wp2
        go_round
        case rel => exact ⟨k + 1, by omega, rfl, by go_num⟩
        case measure => simp [intOf]; omega
      · go_wp2
        go_ret
        exact ⟨rfl, rfl⟩

set_option maxHeartbeats 400000 in
theorem refHas_nil (a : Option Addr) (cap : Nat) (n : Int) (w : World) :
    Calls Try.prog 27 #[.slice a 0 cap, .int .i64 n] w fun e w' => e = .returned (.bool false) ∧ w = w' := by
  go_enter Try.func27, Try.ntmps27
  go_wp2
  go_loop [4, 5] (fun r i => r = .bool false ∧ i = .int .i64 0) (fun _ _ => 0)
  case atStart => exact ⟨rfl, rfl⟩
  case round =>
    obtain ⟨rfl, rfl⟩ := hrel
    go_wp2
    go_ret
    exact ⟨rfl, rfl⟩

theorem refHas_any (a : Option Addr) (cap : Nat) (l : List Sp.S) (n : Int) (w : World) (h : Spans w a cap l) :
    Calls Try.prog 27 #[.slice a l.length cap, .int .i64 n] w fun e w' => e = .returned (.bool (Sp.hasB l n)) ∧ w = w' := by
  obtain ⟨h0, h1, _, h3⟩ := h
  by_cases hn : 0 ≤ n ∧ n < 16384
  · rcases h3 with rfl | ⟨b, off, rfl, _, hc⟩
    · exact refHas_nil a cap n w
    · exact refHas_some b off cap l n w (by omega) hc hn.1 hn.2
  · have ho : n < 0 ∨ 16384 ≤ n := by omega
    rw [Sp.hasB_out ho]
    exact refHas_out a l.length cap n w (by omega) ho

theorem span_neq (x y x2 y2 : Int) (w : World) :
    (binOp .neq 51 (.agg #[.int .i64 x, .int .i64 y]) (.agg #[.int .i64 x2, .int .i64 y2])).run Try.prog w = .ok (.bool (!(x == x2 && y == y2))) w := by
  have u3 := Try.underlying3
  have a3 := Try.isAgg3
  have z3 := Try.sizeOf3
  have hS : Try.prog.underlying 51 = some (.struct (Try.prog.fieldsOf 51)) := by kernel_rfl
  have hp : Try.prog.stoodInHeld 51 = false := by kernel_rfl
  rw [run_neq_struct, show (10000 : Nat) = 9999 + 1 from rfl, run_equalIn_agg w 9999 51 _ _ hS hp]
  simp only [Program.fieldsOf, Try.underlying51]
  go_simp
  by_cases h1 : x = x2 <;> by_cases h2 : y = y2 <;> simp [h1, h2]

set_option maxHeartbeats 1000000 in
theorem refSame_some (b off cap b2 off2 cap2 : Nat) (l m : List Sp.S) (w : World) (hl : l.length ≤ 9223372036854775807) (he : l.length = m.length)
    (hc : ∀ k, k < l.length → w.cell? ⟨b, off + k * 2, none⟩ = some (.int .i64 (l.getD k (0, 0)).1) ∧ w.cell? ⟨b, off + k * 2 + 1, none⟩ = some (.int .i64 (l.getD k (0, 0)).2))
    (hd : ∀ k, k < m.length → w.cell? ⟨b2, off2 + k * 2, none⟩ = some (.int .i64 (m.getD k (0, 0)).1) ∧ w.cell? ⟨b2, off2 + k * 2 + 1, none⟩ = some (.int .i64 (m.getD k (0, 0)).2)) :
    Calls Try.prog 17 #[.slice (some ⟨b, off, none⟩) l.length cap, .slice (some ⟨b2, off2, none⟩) l.length cap2] w fun e w' => e = .returned (.bool (decide (l = m))) ∧ Below w.heap.size w w' := by
  have HC := Lib.hid hc
  have HD := Lib.hid hd
  have HE := Lib.hid he
  have hne : ((l.length : Int) != (l.length : Int)) = false := by simp
  clear hc hd he
  go_enter Try.func17, Try.ntmps17
  go_wp2
  go_loopw [4, 5] (fun r i wr => ∃ k : Nat, k ≤ l.length ∧ r = .bool false ∧ i = .int .i64 k ∧ Hid (l.take k = m.take k) ∧ Hid (Below w.heap.size w wr) ∧ Hid (∀ a : Addr, wr.cell? a = w.cell? a)) (fun _ i _ => l.length - (intOf i).toNat)
  case atStart => exact ⟨0, Nat.zero_le _, rfl, rfl, Lib.hid (by simp), Lib.hid (Below.refl _ _), Lib.hid (fun _ => rfl)⟩
  case round =>
    obtain ⟨k, hk, rfl, rfl, HK, HB, HW⟩ := hrel
    by_cases hlt : k < l.length
    · obtain ⟨c1, c2⟩ := HC.out k hlt
      obtain ⟨d1, d2⟩ := HD.out k (by rw [← HE.out]; exact hlt)
      rw [← HW.out] at c1 c2 d1 d2
      generalize hs : l.getD k (0, 0) = s at c1 c2
      generalize ht : m.getD k (0, 0) = t at d1 d2
      obtain ⟨x, y⟩ := s
      obtain ⟨x2, y2⟩ := t
      have HS := Lib.hid hs
      have HT := Lib.hid ht
      clear hs ht
      simp only at c1 c2 d1 d2
      have hnq := span_neq x y x2 y2
      by_cases heq : x = x2 ∧ y = y2
      · have hb : (!(x == x2 && y == y2)) = false := by simp [heq.1, heq.2]
        have hnq2 := fun w => (hnq w).trans (by rw [hb])
        have hst : l.take (k + 1) = m.take (k + 1) := by
          have hkm : k < m.length := by rw [← HE.out]; exact hlt
          rw [List.take_succ_eq_append_getElem hlt, List.take_succ_eq_append_getElem hkm, HK.out]
          congr 2
          have e1 : l[k] = (x, y) := by rw [← HS.out]; simp [List.getD, hlt]
          have e2 : m[k] = (x2, y2) := by rw [← HT.out]; simp [List.getD, hkm]
          rw [e1, e2, heq.1, heq.2]
        have HST := Lib.hid hst
        clear hnq hb heq hst
        go_upto_region 6 with (fail)
        go_quiet (fail)
        go_wp2
        go_roundw
        case rel => exact ⟨k + 1, by omega, rfl, by go_num, HST, Lib.hid (below_drewN HB.out _), Lib.hid (fun a => HW.out a)⟩
        case measure => simp [intOf]; omega
      · have hb : (!(x == x2 && y == y2)) = true := by
          rw [Bool.not_eq_true', Bool.and_eq_false_iff]
          by_cases h1 : x = x2
          · right; rw [beq_eq_false_iff_ne]; exact fun h2 => heq ⟨h1, h2⟩
          · left; rw [beq_eq_false_iff_ne]; exact h1
        have hnq2 := fun w => (hnq w).trans (by rw [hb])
        have hne2 : l ≠ m := by
          intro hlm
          subst hlm
          have := HS.out.symm.trans HT.out
          simp at this
          exact heq this
        have HNE := Lib.hid hne2
        clear hnq hb heq hne2
        go_upto_region 6 with (fail)
        go_quiet (fail)
        go_wp2
        go_ret
        exact ⟨by rw [decide_eq_false HNE.out]; rfl, below_drewN HB.out _⟩
    · obtain rfl : k = l.length := by omega
      have hlm : l = m := by
        have := HK.out
        rw [List.take_length, HE.out, List.take_length] at this
        exact this
      have HLM := Lib.hid hlm
      clear hlm
      go_wp2
      go_ret
      exact ⟨by rw [decide_eq_true HLM.out]; rfl, HB.out⟩

theorem refSame_len (a a2 : Option Addr) (len len2 cap cap2 : Nat) (w : World) (he : len ≠ len2) :
    Calls Try.prog 17 #[.slice a len cap, .slice a2 len2 cap2] w fun e w' => e = .returned (.bool false) ∧ w = w' := by
  have hne : ((len : Int) != (len2 : Int)) = true := by rw [bne_iff_ne]; omega
  clear he
  go_enter Try.func17, Try.ntmps17
  go_wp2
  go_ret
  exact ⟨rfl, rfl⟩

theorem refSame_nil (a a2 : Option Addr) (cap cap2 : Nat) (w : World) :
    Calls Try.prog 17 #[.slice a 0 cap, .slice a2 0 cap2] w fun e w' => e = .returned (.bool true) ∧ w = w' := by
  go_enter Try.func17, Try.ntmps17
  go_wp2
  go_loop [4, 5] (fun r i => r = .bool false ∧ i = .int .i64 0) (fun _ _ => 0)
  case atStart => exact ⟨rfl, rfl⟩
  case round =>
    obtain ⟨rfl, rfl⟩ := hrel
    go_wp2
    go_ret
    exact ⟨rfl, rfl⟩

/-- are two lists one? -/
theorem refSame_any (a a2 : Option Addr) (cap cap2 : Nat) (l m : List Sp.S) (w : World) (h : Spans w a cap l) (h2 : Spans w a2 cap2 m) :
    Calls Try.prog 17 #[.slice a l.length cap, .slice a2 m.length cap2] w fun e w' => e = .returned (.bool (decide (l = m))) ∧ Below w.heap.size w w' := by
  obtain ⟨g0, g1, _, g3⟩ := h
  obtain ⟨k0, k1, _, k3⟩ := h2
  by_cases he : l.length = m.length
  · by_cases h0 : l.length = 0
    · obtain rfl : l = [] := List.eq_nil_of_length_eq_zero h0
      obtain rfl : m = [] := List.eq_nil_of_length_eq_zero (by rw [← he]; rfl)
      exact (refSame_nil a a2 cap cap2 w).mono fun e w' ⟨he, hw⟩ => ⟨by rw [he]; simp, hw ▸ Below.refl _ _⟩
    · rcases g3 with rfl | ⟨b, off, rfl, _, hc⟩
      · simp at h0
      · rcases k3 with rfl | ⟨b2, off2, rfl, _, hd⟩
        · exact absurd he h0
        · have := refSame_some b off cap b2 off2 cap2 l m w (by omega) he hc hd
          rw [← he]
          exact this
  · refine (refSame_len a a2 l.length m.length cap cap2 w he).mono fun e w' ⟨hr, hw⟩ => ⟨?_, hw ▸ Below.refl _ _⟩
    rw [hr, decide_eq_false]
    intro hlm
    exact he (by rw [hlm])
end Go.Proofs.Ytchladbjhodkoaa
