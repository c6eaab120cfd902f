/- The contracts of slices.Index and slices.Contains at texts. -/
import Derived.Test.YtokcbcjonbjkgaaGreatDoorWds
namespace Go.Proofs.YtokcbcjonbjkgaaGreatDoor
open Go.RowKit Go.Shelf
attribute [local go_sem] Oper.semAt_some
set_option linter.unusedVariables false
set_option linter.unusedSimpArgs false

set_option maxHeartbeats 2000000 in
theorem slIndex_any (a : Option Addr) (cap : Nat) (ws : List (List UInt8)) (s : List UInt8) (w : World) (hW : Wds w a cap ws) (hn : ws.length ≤ 1000000) :
    Calls Tryz.prog 42 #[.slice a ws.length cap, .string ⟨s.toArray⟩] w fun e w' => (∃ i : Int, e = .returned (.int .i64 i) ∧ -1 ≤ i ∧ (0 ≤ i ↔ s ∈ ws)) ∧ w = w' := by
  have HW := Lib.hid hW
  have hnI : (ws.length : Int) ≤ 1000000 := by omega
  clear hW
  go_enter Tryz.func42, Tryz.ntmps42
  go_wp2
  go_loopw [8] (fun i wr => ∃ k : Nat, k ≤ ws.length ∧ i = .int .i64 k ∧ Hid (s ∉ ws.take k) ∧ wr = w) (fun i _ => ws.length - (intOf i).toNat)
  case atStart => exact ⟨0, Nat.zero_le _, rfl, Lib.hid (by simp), rfl⟩
  case round =>
    obtain ⟨k, hk, rfl, HT, rfl⟩ := hrel
    by_cases hlt : k < ws.length
    · obtain ⟨b, off, rfl, hb, hc⟩ := HW.out.get (by omega)
      have hck := hc k hlt
      have HM : Hid (∀ x, ws.getD k [] = x → ws.take (k + 1) = ws.take k ++ [x] ∧ x ∈ ws) := Lib.hid fun x hx => by
        subst hx
        refine ⟨?_, ?_⟩
        · rw [List.take_succ_eq_append_getElem hlt]
          congr 2
          simp [List.getD, hlt]
        · simp [List.getD, hlt]
      generalize ws.getD k [] = x at hck HM
      have k1 : (k : Int) < (ws.length : Int) := by omega
      have k0 : (0 : Int) ≤ (k : Int) := by omega
      clear hc
      by_cases heq : s = x
      · subst heq
        have HMM := Lib.hid (HM.out _ rfl).2
        go_wp2
        go_ret
        exact ⟨⟨_, rfl, by omega, by simpa using HMM.out⟩, rfl⟩
      · have he2 : (s == x) = false := by simpa using heq
        have HE := Lib.hid heq
        go_wp2
        go_roundw
        case rel =>
          refine ⟨k + 1, by omega, by go_num, Lib.hid ?_, trivial⟩
          rw [(HM.out _ rfl).1]
          intro h
          rcases List.mem_append.1 h with h | h
          · exact HT.out h
          · exact HE.out (List.mem_singleton.1 h)
        case measure => simp [intOf]; omega
    · obtain rfl : k = ws.length := by omega
      rw [List.take_length] at HT
      have k1 : ¬ (ws.length : Int) < (ws.length : Int) := by omega
      go_wp2
      go_ret
      exact ⟨⟨_, rfl, by omega, by simpa using HT.out⟩, rfl⟩
theorem contains_any (a : Option Addr) (cap : Nat) (ws : List (List UInt8)) (s : List UInt8) (w : World) (hW : Wds w a cap ws) (hn : ws.length ≤ 1000000) :
    Calls Tryz.prog 28 #[.slice a ws.length cap, .string ⟨s.toArray⟩] w fun e w' => e = .returned (.bool (decide (s ∈ ws))) ∧ w = w' := by
  have HC := Lib.hid (slIndex_any a cap ws s w hW hn)
  go_enter Tryz.func28, Tryz.ntmps28
  go_wp2_with (refine HC.out.mono ?_; rintro e w1 ⟨⟨i, rfl, h1, h2⟩, rfl⟩; have H2 := Lib.hid h2; clear h2)
  go_ret
  exact ⟨congrArg (fun x => Ending.returned (.bool x)) (decide_eq_decide.2 H2.out), rfl⟩
end Go.Proofs.YtokcbcjonbjkgaaGreatDoor
