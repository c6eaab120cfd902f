/- The contract of the developers' Number. -/
import Derived.Test.YtdhcgclchdnmfaaDoorTxBelow
import Derived.Test.YtdhcgclchdnmfaaDoorShelf
namespace Go.Proofs.YtdhcgclchdnmfaaDoor
open Go.RowKit Go.Shelf
set_option linter.unusedVariables false
set_option linter.unusedSimpArgs false

theorem cutMinus_any (s : List UInt8) (w : World) : Calls Tryd.prog 16 #[.string ⟨s.toArray⟩, .string ⟨#[45]⟩] w fun e W => e = .returned (.tuple #[.string ⟨(Tx.tailD s).toArray⟩, .bool (Tx.negB s)]) ∧ w = W := by
  refine (Tryd.strings_CutPrefix ⟨s.toArray⟩ ⟨#[45]⟩ w).mono ?_
  rintro e W ⟨rfl, rfl⟩
  refine ⟨?_, rfl⟩
  have hp : Lib.hasPrefix s [45] = Tx.negB s := by
    cases s with
    | nil => rfl
    | cons c t =>
      show ((45 == c) && List.isPrefixOf [] t) = (c == 45)
      rw [List.isPrefixOf_nil_left, Bool.and_true]
      exact Bool.eq_iff_iff.2 ⟨fun h => by rw [beq_iff_eq] at h ⊢; exact h.symm, fun h => by rw [beq_iff_eq] at h ⊢; exact h.symm⟩
  show Ending.returned (.tuple #[.string ⟨(if Lib.hasPrefix s [45] then s.drop 1 else s).toArray⟩, .bool (Lib.hasPrefix s [45])]) = _
  rw [hp]
  rfl

set_option maxRecDepth 100000 in
set_option maxHeartbeats 8000000 in
theorem number_any (s : List UInt8) (w : World) (hl : s.length ≤ 1000000) : Calls Tryd.prog 7 #[.string ⟨s.toArray⟩] w fun e W => e = .returned (.tuple #[.int .i64 (Tx.numS s).1, .bool (Tx.numS s).2]) ∧ w = W := by
  have hcut := cutMinus_any s w
  have htl : (Tx.tailD s).length ≤ 1000000 := by unfold Tx.tailD; split <;> first | (rw [List.length_drop]; omega) | omega
  have hbel := below_any (Tx.tailD s) w htl
  have hbad := @Tx.numS_bad s
  have hgood := @Tx.numS_good s
  have hbh : Tx.badHead s = (decide (Tx.tailD s = []) || (decide ((Tx.tailD s).getD 0 0 = 48) && decide (s ≠ [48]))) := rfl
  have hrng : -9223372036854775808 ≤ (Tx.belowS (Tx.tailD s)).1 ∧ (Tx.belowS (Tx.tailD s)).1 ≤ 0 := by
    unfold Tx.belowS
    split
    · rename_i h
      unfold Tx.belowOk at h
      rw [Bool.and_eq_true, decide_eq_true_eq] at h
      constructor
      · show -9223372036854775808 ≤ -((Tx.valD _ : Nat) : Int); omega
      · show -((Tx.valD _ : Nat) : Int) ≤ 0; omega
    · exact ⟨by decide, by decide⟩
  have hz0 : (Tx.belowS (Tx.tailD s)).2 = false → (Tx.belowS (Tx.tailD s)).1 = 0 := by
    unfold Tx.belowS
    split
    · intro h; cases h
    · intro _; rfl
  generalize Tx.belowS (Tx.tailD s) = p at *
  obtain ⟨n, ok⟩ := p
  obtain ⟨r0, r1⟩ := hrng
  generalize Tx.negB s = neg at *
  generalize Tx.tailD s = t at *
  generalize Tx.badHead s = bad at *
  generalize Tx.numS s = out at *
  simp only at r0 r1 hgood hbel hz0
  have HZ0 := Lib.hid hz0
  clear hz0
  have HC := Lib.hid hcut
  have HB := Lib.hid hbel
  have HBAD := Lib.hid hbad
  have HGOOD := Lib.hid hgood
  have HBH := Lib.hid hbh
  clear hcut hbel hbad hgood hbh
  by_cases ht : t = []
  · have HR : Hid (out = (0, false)) := Lib.hid (HBAD.out (by rw [HBH.out, decide_eq_true ht, Bool.true_or]))
    go_enter Tryd.func7, Tryd.ntmps7
    go_wp2_with (go_at_call 16; refine HC.out.mono ?_; rintro e w1 ⟨rfl, rfl⟩)
    go_ret2
    exact ⟨ret_ib HR.out.symm, rfl⟩
  · have hpos : 0 < t.length := List.length_pos_iff.2 ht
    obtain ⟨c, hc⟩ : ∃ c, t.getD 0 0 = c := ⟨_, rfl⟩
    obtain ⟨y, hy⟩ : ∃ y, (c.toNat : Int) = y := ⟨_, rfl⟩
    have hyb := byte_bd c
    rw [hy] at hyb
    obtain ⟨y1, y2⟩ := hyb
    have hix : ∀ W : World, (Instr.index 9 (.string ⟨t.toArray⟩) (.int .i64 0)).run Tryd.prog W = .ok (.int .u8 y) W := fun W => by
      have := idx_at t 0 hpos W
      rw [hc, hy] at this
      exact this
    have HY : Hid (decide (t.getD 0 0 = 48) = decide (y = 48)) := Lib.hid (by
      rw [hc, ← hy]
      refine decide_eq_decide.2 ⟨fun h => by rw [h]; rfl, fun h => UInt8.toNat_inj.1 ?_⟩
      have : c.toNat = 48 := by omega
      rw [this]; rfl)
    have HB2 : Hid (bad = (decide (y = 48) && decide (s ≠ [48]))) := Lib.hid (by rw [HBH.out, decide_eq_false ht, Bool.false_or, HY.out])
    have hte : t.isEmpty = false := by rw [List.isEmpty_eq_false_iff]; exact ht
    clear hc hy
    by_cases hbd : y = 48 ∧ ¬ s = [48]
    · obtain ⟨h48, hs⟩ := hbd
      have hs2 : (s == [48]) = false := by rw [beq_eq_false_iff_ne]; exact hs
      have HR : Hid (out = (0, false)) := Lib.hid (HBAD.out (by rw [HB2.out, decide_eq_true h48, decide_eq_true hs]; rfl))
      go_enter Tryd.func7, Tryd.ntmps7
      go_wp2_with (go_at_call 16; refine HC.out.mono ?_; rintro e w1 ⟨rfl, rfl⟩)
      go_ret2
      exact ⟨ret_ib HR.out.symm, rfl⟩
    · have HG := Lib.hid (HGOOD.out (by rw [HB2.out, Bool.and_eq_false_iff, decide_eq_false_iff_not, decide_eq_false_iff_not]; exact Classical.not_and_iff_not_or_not.1 hbd))
      have hcase : (y = 48 ∧ s = [48]) ∨ ¬ y = 48 := by
        by_cases h1 : y = 48
        · by_cases h2 : s = [48]
          · exact .inl ⟨h1, h2⟩
          · exact absurd ⟨h1, h2⟩ hbd
        · exact .inr h1
      have hy48 : y = 48 → s = [48] := fun h => hcase.elim (fun h' => h'.2) (fun h' => absurd h h')
      have HS : Hid ((y = 48 ∧ (s == [48]) = true) ∨ decide (y = 48) = false) := Lib.hid (hcase.elim (fun h => .inl ⟨h.1, by rw [h.2]; rfl⟩) (fun h => .inr (decide_eq_false h)))
      clear hbd hcase hy48
      cases ok with
      | false =>
        obtain rfl := HZ0.out rfl
        have HR : Hid (out = (0, false)) := Lib.hid (by rw [HG.out, if_pos rfl])
        rcases HS.out with ⟨h48, hs⟩ | h48
        · subst h48
          go_enter Tryd.func7, Tryd.ntmps7
          go_wp2_with (first
            | (go_at_call 16; refine HC.out.mono ?_; rintro e w1 ⟨rfl, rfl⟩)
            | (go_at_call 17; refine HB.out.mono ?_; rintro e w1 ⟨rfl, rfl⟩))
          go_ret2
          exact ⟨ret_ib HR.out.symm, rfl⟩
        · have h49 := of_decide_eq_false h48
          go_enter Tryd.func7, Tryd.ntmps7
          go_wp2_with (first
            | (go_at_call 16; refine HC.out.mono ?_; rintro e w1 ⟨rfl, rfl⟩)
            | (go_at_call 17; refine HB.out.mono ?_; rintro e w1 ⟨rfl, rfl⟩))
          go_ret2
          exact ⟨ret_ib HR.out.symm, rfl⟩
      | true =>
        cases neg with
        | true =>
          have HR : Hid (out = (n, true)) := Lib.hid (by rw [HG.out, if_neg (by simp), if_pos rfl])
          rcases HS.out with ⟨h48, hs⟩ | h48
          · subst h48
            go_enter Tryd.func7, Tryd.ntmps7
            go_wp2_with (first
              | (go_at_call 16; refine HC.out.mono ?_; rintro e w1 ⟨rfl, rfl⟩)
              | (go_at_call 17; refine HB.out.mono ?_; rintro e w1 ⟨rfl, rfl⟩))
            go_ret2
            exact ⟨ret_ib HR.out.symm, rfl⟩
          · have h49 := of_decide_eq_false h48
            go_enter Tryd.func7, Tryd.ntmps7
            go_wp2_with (first
              | (go_at_call 16; refine HC.out.mono ?_; rintro e w1 ⟨rfl, rfl⟩)
              | (go_at_call 17; refine HB.out.mono ?_; rintro e w1 ⟨rfl, rfl⟩))
            go_ret2
            exact ⟨ret_ib HR.out.symm, rfl⟩
        | false =>
          by_cases hn : n = -9223372036854775808
          · have HR : Hid (out = (0, false)) := Lib.hid (by rw [HG.out, if_neg (by simp), if_neg (by simp), if_pos hn])
            rcases HS.out with ⟨h48, hs⟩ | h48
            · subst h48
              go_enter Tryd.func7, Tryd.ntmps7
              go_wp2_with (first
                | (go_at_call 16; refine HC.out.mono ?_; rintro e w1 ⟨rfl, rfl⟩)
                | (go_at_call 17; refine HB.out.mono ?_; rintro e w1 ⟨rfl, rfl⟩))
              go_ret2
              exact ⟨ret_ib HR.out.symm, rfl⟩
            · have h49 := of_decide_eq_false h48
              go_enter Tryd.func7, Tryd.ntmps7
              go_wp2_with (first
                | (go_at_call 16; refine HC.out.mono ?_; rintro e w1 ⟨rfl, rfl⟩)
                | (go_at_call 17; refine HB.out.mono ?_; rintro e w1 ⟨rfl, rfl⟩))
              go_ret2
              exact ⟨ret_ib HR.out.symm, rfl⟩
          · have HR : Hid (out = (-n, true)) := Lib.hid (by rw [HG.out, if_neg (by simp), if_neg (by simp), if_neg hn])
            rcases HS.out with ⟨h48, hs⟩ | h48
            · subst h48
              go_enter Tryd.func7, Tryd.ntmps7
              go_wp2_with (first
                | (go_at_call 16; refine HC.out.mono ?_; rintro e w1 ⟨rfl, rfl⟩)
                | (go_at_call 17; refine HB.out.mono ?_; rintro e w1 ⟨rfl, rfl⟩))
              go_ret2
              exact ⟨ret_ib HR.out.symm, rfl⟩
            · have h49 := of_decide_eq_false h48
              go_enter Tryd.func7, Tryd.ntmps7
              go_wp2_with (first
                | (go_at_call 16; refine HC.out.mono ?_; rintro e w1 ⟨rfl, rfl⟩)
                | (go_at_call 17; refine HB.out.mono ?_; rintro e w1 ⟨rfl, rfl⟩))
              go_ret2
              exact ⟨ret_ib HR.out.symm, rfl⟩
end Go.Proofs.YtdhcgclchdnmfaaDoor
