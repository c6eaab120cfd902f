/- The contract of the reference's Number. -/
import Derived.Test.YtahmddopbmjepaaDoorRA37
import Derived.Test.YtahmddopbmjepaaDoorRA22
import Derived.RangeFuncRecord
import Derived.Shelf.Abstract
import Derived.OwnWalkIn
import Derived.LoopNIn
import Derived.Maps.OwnIn
import Derived.WalkKit
import Derived.WalkLawsBesides
import Derived.WalkSpells
import Derived.TacticsInMore
import Derived.Lib.Hide
import Derived.Outline
import Derived.Below
import Derived.IntWalk
import Derived.BigQuiet
import Derived.Laws.IdiomStrings
import Derived.Deep.DeepFit
import Derived.Deep.DeepCutAuto
import Derived.LoopTactic
namespace Go.Proofs.YtahmddopbmjepaaDoor
open Go.RowKit Go.Shelf
set_option linter.unusedVariables false
set_option linter.unusedSimpArgs false

theorem loadNum {w : World} {B : Nat} {n : Int} {b : Bool} (h : Box2 w B 93 (.int .i64 n) (.bool b)) : (loadVar 93 ⟨B, 0, none⟩).run Tryd.prog w = .ok (.agg #[.int .i64 n, .bool b]) w := by
  obtain ⟨h0, h1, _, _⟩ := h.at
  simp [loadVar, go_sem, h0, h1]
/-- what Number tells. -/
def NumOut (s : List UInt8) (w : World) (e : Ending) (W : World) : Prop := e = .returned (.agg #[.int .i64 (Tx.numS s).1, .bool (Tx.numS s).2]) ∧ Below w.heap.size w W

set_option maxRecDepth 100000 in
set_option maxHeartbeats 8000000 in
theorem refNum_neg (s : List UInt8) (w : World) (hl : s.length ≤ 1000000) (hneg : Tx.negB s = true) : Calls Tryd.prog 35 #[.string ⟨s.toArray⟩] w (NumOut s w) := by
  have htl : Tx.tailD s = s.drop 1 := by unfold Tx.tailD; rw [hneg]; rfl
  have hmo : Tx.most s = 9223372036854775808 := by unfold Tx.most; rw [hneg]; rfl
  have hnu : Tx.numI s = -(Tx.valD (Tx.tailD s) : Int) := by unfold Tx.numI; rw [hneg]; rfl
  obtain ⟨t, rfl⟩ : ∃ t, s = 45 :: t := by
    cases s with
    | nil => cases hneg
    | cons c t =>
      refine ⟨t, ?_⟩
      simp only [Tx.negB, beq_iff_eq] at hneg
      rw [hneg]
  have htt : Tx.tailD (45 :: t) = t := by rw [htl]; rfl
  rw [htt] at hnu
  obtain ⟨s, hs⟩ : ∃ s, 45 :: t = s := ⟨_, rfl⟩
  have hlen : s.length = t.length + 1 := by rw [← hs]; rfl
  have hget : ∀ k, s.getD (k + 1) 0 = t.getD k 0 := fun k => by rw [← hs]; rfl
  have hi0 : ∀ W : World, (Instr.index 9 (.string ⟨s.toArray⟩) (.int .i64 0)).run Tryd.prog W = .ok (.int .u8 45) W := fun W => by
    have := idx_at s 0 (by omega) W
    rwa [show s.getD 0 0 = 45 by rw [← hs]; rfl] at this
  rw [hs] at htt hmo hnu hl ⊢
  have hne0 : ¬ s = [] := by rw [← hs]; simp
  have hie : s.isEmpty = false := by rw [List.isEmpty_eq_false_iff]; exact hne0
  clear htl hneg hs
  have HTT := Lib.hid htt
  have HMO := Lib.hid hmo
  have HNU := Lib.hid hnu
  have HI0 := Lib.hid hi0
  have HZ := Lib.hid (Box2.new w 93 (.int .i64 0) (.bool false))
  have HLEN := Lib.hid hlen
  have HGET := Lib.hid hget
  have hlI : (s.length : Int) = (t.length : Int) + 1 := by omega
  have hlt1 : (t.length : Int) ≤ 1000000 := by omega
  clear htt hmo hnu hi0 hlen hget
  have HLI := Lib.hid hlI
  have hi0 := HI0.out
  clear hlI
  go_enter Tryd.func35, Tryd.ntmps35
  go_upto_region 6 with (fail)
  go_wp2_with fail
  go_loop [3, 6] (fun u i => ∃ (q : Nat) (U : Int), q ≤ t.length ∧ i = .int .i64 ((q : Int) + 1) ∧ u = .int .u64 U ∧ 0 ≤ U ∧ U ≤ 9223372036854775808 ∧ Hid ((Tx.valD (t.take q) : Int) = U ∧ ∀ j, j < q → Tx.isD (t.getD j 0) = true)) (fun _ i => (t.length : Int).toNat + 1 - (intOf i).toNat)
  case atStart => exact ⟨0, 0, Nat.zero_le _, rfl, rfl, by decide, by decide, Lib.hid ⟨rfl, fun j h => by omega⟩⟩
  case round =>
    obtain ⟨q, U, hq, rfl, rfl, u0, uM, HQ⟩ := hrel
    have hlI2 := HLI.out
    by_cases hlt : q < t.length
    · obtain ⟨c, hc⟩ : ∃ c, t.getD q 0 = c := ⟨_, rfl⟩
      obtain ⟨y, hy⟩ : ∃ y, (c.toNat : Int) = y := ⟨_, rfl⟩
      have hyb := byte_bd c
      rw [hy] at hyb
      obtain ⟨y1, y2⟩ := hyb
      have hix : ∀ W : World, (Instr.index 9 (.string ⟨s.toArray⟩) (.int .i64 ((q : Int) + 1))).run Tryd.prog W = .ok (.int .u8 y) W := fun W => by
        have := idx_at s (q + 1) (by have := HLEN.out; omega) W
        rw [HGET.out, hc, hy] at this
        exact this
      have HD := Lib.hid (isD_iff hy)
      have HC := Lib.hid hc
      have HY := Lib.hid hy
      have k0 : (0 : Int) ≤ ((q : Int) + 1) := by omega
      have k1 : ((q : Int) + 1) < (s.length : Int) := by omega
      have HN1 : Hid (Tx.isD c = false → Tx.numS s = (0, false)) := Lib.hid fun h => Tx.not_digit (k := q) (by rw [HTT.out]; exact hlt) (by rw [HTT.out, HC.out]; exact h)
      have HN2 : Hid (9223372036854775808 < 10 * U + (y - 48) → Tx.isD c = true → Tx.numS s = (0, false)) := Lib.hid fun h hd => Tx.not_fit (k := q) (by rw [HTT.out]; exact hlt) (by rw [HTT.out, HC.out, HMO.out]; have h1 := HQ.out.1; have h2 := HY.out; rw [HD.out] at hd; simp only [Bool.and_eq_true, decide_eq_true_eq] at hd; omega)
      clear hc hy hlI2
      by_cases h48 : y < 48
      · have HR := Lib.hid (HN1.out (by rw [HD.out, decide_eq_false (by omega)]; rfl))
        go_wp2_with fail
        obtain ⟨we, hwe⟩ : ∃ we, w.alloc (.cells #[.int .i64 0, .bool false] 93) = we := ⟨_, rfl⟩
        have hbz : Box2 we w.heap.size 93 (.int .i64 0) (.bool false) := by rw [← hwe]; exact Box2.new w _ _ _
        have hbl : Below w.heap.size w we := by rw [← hwe]; exact (Below.refl _ w).alloc (Nat.le_refl _) _
        show bodyPost _ _ _ .ret _ (w.alloc (.cells #[.int .i64 0, .bool false] 93))
        rw [hwe]
        exact bodyPost_ret (results_cellT rfl rfl (loadNum hbz)) rfl ⟨by rw [HR.out], hbl⟩
      · by_cases h57 : 57 < y
        · have HR := Lib.hid (HN1.out (by rw [HD.out, decide_eq_false (p := y ≤ 57) (by omega), Bool.and_false]))
          go_wp2_with fail
          obtain ⟨we, hwe⟩ : ∃ we, w.alloc (.cells #[.int .i64 0, .bool false] 93) = we := ⟨_, rfl⟩
          have hbz : Box2 we w.heap.size 93 (.int .i64 0) (.bool false) := by rw [← hwe]; exact Box2.new w _ _ _
          have hbl : Below w.heap.size w we := by rw [← hwe]; exact (Below.refl _ w).alloc (Nat.le_refl _) _
          show bodyPost _ _ _ .ret _ (w.alloc (.cells #[.int .i64 0, .bool false] 93))
          rw [hwe]
          exact bodyPost_ret (results_cellT rfl rfl (loadNum hbz)) rfl ⟨by rw [HR.out], hbl⟩
        · have hdt : Tx.isD c = true := by rw [HD.out, decide_eq_true (by omega), decide_eq_true (by omega)]; rfl
          have b1 : (48 : Int) ≤ y := by omega
          have b2 : y ≤ 57 := by omega
          have HDT := Lib.hid hdt
          clear hdt h48 h57
          by_cases hov : 9223372036854775808 < 10 * U + (y - 48)
          · have HR := Lib.hid (HN2.out hov HDT.out)
            have hgt : (9223372036854775808 - (y - 48)) / 10 < U := by omega
            clear hov
            go_wp2_with fail
            obtain ⟨we, hwe⟩ : ∃ we, w.alloc (.cells #[.int .i64 0, .bool false] 93) = we := ⟨_, rfl⟩
            have hbz : Box2 we w.heap.size 93 (.int .i64 0) (.bool false) := by rw [← hwe]; exact Box2.new w _ _ _
            have hbl : Below w.heap.size w we := by rw [← hwe]; exact (Below.refl _ w).alloc (Nat.le_refl _) _
            show bodyPost _ _ _ .ret _ (w.alloc (.cells #[.int .i64 0, .bool false] 93))
            rw [hwe]
            exact bodyPost_ret (results_cellT rfl rfl (loadNum hbz)) rfl ⟨by rw [HR.out], hbl⟩
          · have hle : U ≤ (9223372036854775808 - (y - 48)) / 10 := by omega
            have hnlt : decide ((9223372036854775808 - (y - 48)) / 10 < U) = false := by rw [decide_eq_false_iff_not]; omega
            have hb10 : 10 * U + (y - 48) ≤ 9223372036854775808 := by omega
            have HST : Hid ((Tx.valD (t.take (q + 1)) : Int) = 10 * U + (y - 48) ∧ ∀ j, j < q + 1 → Tx.isD (t.getD j 0) = true) := Lib.hid ⟨by
              rw [Tx.take_at hlt, Tx.valD_snoc, HC.out]; have h1 := HQ.out.1; have h2 := HY.out; omega, fun j hj => by
              rcases Nat.lt_or_ge j q with h | h
              · exact HQ.out.2 j h
              · obtain rfl : j = q := by omega
                rw [HC.out]; exact HDT.out⟩
            clear hov
            go_wp2_with fail
            go_round
            case rel => exact ⟨q + 1, 10 * U + (y - 48), by omega, by go_num, rfl, by omega, by omega, HST⟩
            case measure => simp [intOf]; omega
    · obtain rfl : q = t.length := by omega
      have HE := Lib.hid (show Tx.numS s = if t ≠ [] ∧ Dig.dec (Tx.numI s) = s then (Tx.numI s, true) else (0, false) from by
        have h1 := HQ.out.1
        rw [List.take_length] at h1
        rw [Tx.num_end (by rw [HTT.out]; unfold Tx.digB; rw [List.all_eq_true]; intro x hx; obtain ⟨j, hj, rfl⟩ := List.getElem_of_mem hx; have := HQ.out.2 j hj; rwa [show t.getD j 0 = t[j] by simp [List.getD, hj]] at this) (by rw [HTT.out, HMO.out]; omega), HTT.out])
      have HI : Hid (Tx.numI s = -U) := Lib.hid (by rw [HNU.out]; have h1 := HQ.out.1; rw [List.take_length] at h1; rw [h1])
      clear HQ hlt hq
      have HDG := Lib.hid (fun W => digits_any (-U) W (by omega) (by omega))
      have hz := HZ.out
      obtain ⟨V, hV⟩ : ∃ V, IntKind.u64.wrap (-U) = V := ⟨_, rfl⟩
      have hV2 : IntKind.i64.wrap V = -U := by rw [← hV, IntKind.wrap_u64, IntKind.wrap_i64]; omega
      obtain ⟨Z, hZ⟩ : ∃ Z, IntKind.i64.wrap U = Z := ⟨_, rfl⟩
      have k1 : (s.length : Int) ≤ (t.length : Int) + 1 := by have := HLI.out; omega
      have HT0 := Lib.hid (show t = [] ↔ ((s.length : Int) == 1) = true by rw [beq_iff_eq, ← List.length_eq_zero_iff]; have := HLI.out; omega)
      cases h1 : ((s.length : Int) == 1)
      all_goals
        have hq1 := h1
        have hq2 := h1
        have hq3 := h1
        simp only [beq_iff_eq, beq_eq_false_iff_ne] at hq1
        simp at hq2
      · have HTN : Hid (t ≠ []) := Lib.hid (fun h => by have := HT0.out.1 h; rw [h1] at this; cases this)
        by_cases hd : Dig.dec (-U) = s
        · have HR := Lib.hid (show Tx.numS s = (-U, true) by rw [HE.out, HI.out, if_pos ⟨HTN.out, hd⟩])
          go_wp2_with fail
          refine (HDG.out _).mono ?_
          rintro e w2 ⟨rfl, hb⟩
          have hx2 := Box2.later hz hb
          obtain ⟨z0, z1, f0, f1⟩ := hx2.at
          have HST := Lib.hid (hx2.store (.int .i64 (-U)) (.bool true))
          have HB2 := Lib.hid (((Below.refl _ w).alloc (Nat.le_refl _) _).trans (hb.mono (by simp)))
          rw [hd]
          clear hx2 hb hd
          go_wp2_with fail
          obtain ⟨we, hwe⟩ : ∃ we, (w2.setCell ⟨w.heap.size, 0, none⟩ (.int .i64 (-U))).setCell ⟨w.heap.size, 1, none⟩ (.bool true) = we := ⟨_, rfl⟩
          have hbz : Box2 we w.heap.size 93 (.int .i64 (-U)) (.bool true) := hwe ▸ HST.out
          have hbl : Below w.heap.size w we := by rw [← hwe]; exact (HB2.out.setCell (p := ⟨w.heap.size, 0, none⟩) (Nat.le_refl _) _).setCell (p := ⟨w.heap.size, 1, none⟩) (Nat.le_refl _) _
          show bodyPost _ _ _ .ret _ ((w2.setCell ⟨w.heap.size, 0, none⟩ (.int .i64 (-U))).setCell ⟨w.heap.size, 1, none⟩ (.bool true))
          rw [hwe]
          exact bodyPost_ret (results_cellT rfl rfl (loadNum hbz)) rfl ⟨by rw [HR.out], hbl⟩
        · have HR := Lib.hid (show Tx.numS s = (0, false) by rw [HE.out, HI.out, if_neg (fun h => hd h.2)])
          go_wp2_with fail
          refine (HDG.out _).mono ?_
          rintro e w2 ⟨rfl, hb⟩
          have hx2 := Box2.later hz hb
          obtain ⟨z0, z1, f0, f1⟩ := hx2.at
          have HST := Lib.hid (hx2.store (.int .i64 0) (.bool false))
          have HB2 := Lib.hid (((Below.refl _ w).alloc (Nat.le_refl _) _).trans (hb.mono (by simp)))
          have hne : (Dig.dec (-U) != s) = true := by simp [hd]
          have hne2 : (Dig.dec (-U) == s) = false := by simp [hd]
          clear hx2 hb hd
          go_wp2_with fail
          obtain ⟨we, hwe⟩ : ∃ we, (w2.setCell ⟨w.heap.size, 0, none⟩ (.int .i64 0)).setCell ⟨w.heap.size, 1, none⟩ (.bool false) = we := ⟨_, rfl⟩
          have hbz : Box2 we w.heap.size 93 (.int .i64 0) (.bool false) := hwe ▸ HST.out
          have hbl : Below w.heap.size w we := by rw [← hwe]; exact (HB2.out.setCell (p := ⟨w.heap.size, 0, none⟩) (Nat.le_refl _) _).setCell (p := ⟨w.heap.size, 1, none⟩) (Nat.le_refl _) _
          show bodyPost _ _ _ .ret _ ((w2.setCell ⟨w.heap.size, 0, none⟩ (.int .i64 0)).setCell ⟨w.heap.size, 1, none⟩ (.bool false))
          rw [hwe]
          exact bodyPost_ret (results_cellT rfl rfl (loadNum hbz)) rfl ⟨by rw [HR.out], hbl⟩
      · have HR := Lib.hid (show Tx.numS s = (0, false) by rw [HE.out, if_neg (fun h => h.1 (HT0.out.2 h1))])
        go_wp2_with fail
        obtain ⟨we, hwe⟩ : ∃ we, w.alloc (.cells #[.int .i64 0, .bool false] 93) = we := ⟨_, rfl⟩
        have hbz : Box2 we w.heap.size 93 (.int .i64 0) (.bool false) := by rw [← hwe]; exact Box2.new w _ _ _
        have hbl : Below w.heap.size w we := by rw [← hwe]; exact (Below.refl _ w).alloc (Nat.le_refl _) _
        show bodyPost _ _ _ .ret _ (w.alloc (.cells #[.int .i64 0, .bool false] 93))
        rw [hwe]
        exact bodyPost_ret (results_cellT rfl rfl (loadNum hbz)) rfl ⟨by rw [HR.out], hbl⟩
set_option maxRecDepth 100000 in
set_option maxHeartbeats 8000000 in
theorem refNum_pos (s : List UInt8) (w : World) (hl : s.length ≤ 1000000) (hneg : Tx.negB s = false) (hs0 : s ≠ []) : Calls Tryd.prog 35 #[.string ⟨s.toArray⟩] w (NumOut s w) := by
  have htl : Tx.tailD s = s := by unfold Tx.tailD; rw [hneg]; rfl
  have hmo : Tx.most s = 9223372036854775807 := by unfold Tx.most; rw [hneg]; rfl
  have hnu : Tx.numI s = (Tx.valD (Tx.tailD s) : Int) := by unfold Tx.numI; rw [hneg]; rfl
  obtain ⟨t, htt⟩ : ∃ t, s = t := ⟨_, rfl⟩
  have hi0 : ∀ W : World, s ≠ [] → ∃ y : Int, (Instr.index 9 (.string ⟨s.toArray⟩) (.int .i64 0)).run Tryd.prog W = .ok (.int .u8 y) W ∧ (y == 45) = false := fun W h => by
    cases s with
    | nil => exact absurd rfl h
    | cons c r =>
      refine ⟨_, idx_at (c :: r) 0 (by simp) W, ?_⟩
      simp only [Tx.negB] at hneg
      rw [beq_eq_false_iff_ne]
      intro e
      have : (c == 45) = true := bool_eq.2 (natI (by simpa using e))
      rw [this] at hneg
      cases hneg
  rw [htl] at hnu
  have htt2 : Tx.tailD s = s := htl
  clear htl htt hneg
  have htt := htt2
  have HTT := Lib.hid htt
  have HMO := Lib.hid hmo
  have HNU := Lib.hid hnu
  have HI0 := Lib.hid hi0
  have HZ := Lib.hid (Box2.new w 93 (.int .i64 0) (.bool false))
  have hlt1 : (s.length : Int) ≤ 1000000 := by omega
  clear htt hmo hnu hi0 htt2
  obtain ⟨y0, hy0, hy45⟩ := HI0.out (w.alloc (.cells #[.int .i64 0, .bool false] 93)) hs0
  have hie : s.isEmpty = false := by rw [List.isEmpty_eq_false_iff]; exact hs0
  go_enter Tryd.func35, Tryd.ntmps35
  go_upto_region 6 with (fail)
  go_wp2_with fail
  go_loop [3, 6] (fun u i => ∃ (q : Nat) (U : Int), q ≤ s.length ∧ i = .int .i64 (q : Int) ∧ u = .int .u64 U ∧ 0 ≤ U ∧ U ≤ 9223372036854775807 ∧ Hid ((Tx.valD (s.take q) : Int) = U ∧ ∀ j, j < q → Tx.isD (s.getD j 0) = true)) (fun _ i => (s.length : Int).toNat + 1 - (intOf i).toNat)
  case atStart => exact ⟨0, 0, Nat.zero_le _, rfl, rfl, by decide, by decide, Lib.hid ⟨rfl, fun j h => by omega⟩⟩
  case round =>
    obtain ⟨q, U, hq, rfl, rfl, u0, uM, HQ⟩ := hrel
    by_cases hlt : q < s.length
    · obtain ⟨c, hc⟩ : ∃ c, s.getD q 0 = c := ⟨_, rfl⟩
      obtain ⟨y, hy⟩ : ∃ y, (c.toNat : Int) = y := ⟨_, rfl⟩
      have hyb := byte_bd c
      rw [hy] at hyb
      obtain ⟨y1, y2⟩ := hyb
      have hix : ∀ W : World, (Instr.index 9 (.string ⟨s.toArray⟩) (.int .i64 (q : Int))).run Tryd.prog W = .ok (.int .u8 y) W := fun W => by
        have := idx_at s q hlt W
        rw [hc, hy] at this
        exact this
      have HD := Lib.hid (isD_iff hy)
      have HC := Lib.hid hc
      have HY := Lib.hid hy
      have k0 : (0 : Int) ≤ (q : Int) := by omega
      have k1 : (q : Int) < (s.length : Int) := by omega
      have HN1 : Hid (Tx.isD c = false → Tx.numS s = (0, false)) := Lib.hid fun h => Tx.not_digit (k := q) (by rw [HTT.out]; exact hlt) (by rw [HTT.out, HC.out]; exact h)
      have HN2 : Hid (9223372036854775807 < 10 * U + (y - 48) → Tx.isD c = true → Tx.numS s = (0, false)) := Lib.hid fun h hd => Tx.not_fit (k := q) (by rw [HTT.out]; exact hlt) (by rw [HTT.out, HC.out, HMO.out]; have h1 := HQ.out.1; have h2 := HY.out; rw [HD.out] at hd; simp only [Bool.and_eq_true, decide_eq_true_eq] at hd; omega)
      clear hc hy
      by_cases h48 : y < 48
      · have HR := Lib.hid (HN1.out (by rw [HD.out, decide_eq_false (by omega)]; rfl))
        go_wp2_with fail
        obtain ⟨we, hwe⟩ : ∃ we, w.alloc (.cells #[.int .i64 0, .bool false] 93) = we := ⟨_, rfl⟩
        have hbz : Box2 we w.heap.size 93 (.int .i64 0) (.bool false) := by rw [← hwe]; exact Box2.new w _ _ _
        have hbl : Below w.heap.size w we := by rw [← hwe]; exact (Below.refl _ w).alloc (Nat.le_refl _) _
        show bodyPost _ _ _ .ret _ (w.alloc (.cells #[.int .i64 0, .bool false] 93))
        rw [hwe]
        exact bodyPost_ret (results_cellT rfl rfl (loadNum hbz)) rfl ⟨by rw [HR.out], hbl⟩
      · by_cases h57 : 57 < y
        · have HR := Lib.hid (HN1.out (by rw [HD.out, decide_eq_false (p := y ≤ 57) (by omega), Bool.and_false]))
          go_wp2_with fail
          obtain ⟨we, hwe⟩ : ∃ we, w.alloc (.cells #[.int .i64 0, .bool false] 93) = we := ⟨_, rfl⟩
          have hbz : Box2 we w.heap.size 93 (.int .i64 0) (.bool false) := by rw [← hwe]; exact Box2.new w _ _ _
          have hbl : Below w.heap.size w we := by rw [← hwe]; exact (Below.refl _ w).alloc (Nat.le_refl _) _
          show bodyPost _ _ _ .ret _ (w.alloc (.cells #[.int .i64 0, .bool false] 93))
          rw [hwe]
          exact bodyPost_ret (results_cellT rfl rfl (loadNum hbz)) rfl ⟨by rw [HR.out], hbl⟩
        · have hdt : Tx.isD c = true := by rw [HD.out, decide_eq_true (by omega), decide_eq_true (by omega)]; rfl
          have b1 : (48 : Int) ≤ y := by omega
          have b2 : y ≤ 57 := by omega
          have HDT := Lib.hid hdt
          clear hdt h48 h57
          by_cases hov : 9223372036854775807 < 10 * U + (y - 48)
          · have HR := Lib.hid (HN2.out hov HDT.out)
            have hgt : (9223372036854775807 - (y - 48)) / 10 < U := by omega
            clear hov
            go_wp2_with fail
            obtain ⟨we, hwe⟩ : ∃ we, w.alloc (.cells #[.int .i64 0, .bool false] 93) = we := ⟨_, rfl⟩
            have hbz : Box2 we w.heap.size 93 (.int .i64 0) (.bool false) := by rw [← hwe]; exact Box2.new w _ _ _
            have hbl : Below w.heap.size w we := by rw [← hwe]; exact (Below.refl _ w).alloc (Nat.le_refl _) _
            show bodyPost _ _ _ .ret _ (w.alloc (.cells #[.int .i64 0, .bool false] 93))
            rw [hwe]
            exact bodyPost_ret (results_cellT rfl rfl (loadNum hbz)) rfl ⟨by rw [HR.out], hbl⟩
          · have hle : U ≤ (9223372036854775807 - (y - 48)) / 10 := by omega
            have hnlt : decide ((9223372036854775807 - (y - 48)) / 10 < U) = false := by rw [decide_eq_false_iff_not]; omega
            have hb10 : 10 * U + (y - 48) ≤ 9223372036854775807 := by omega
            have HST : Hid ((Tx.valD (s.take (q + 1)) : Int) = 10 * U + (y - 48) ∧ ∀ j, j < q + 1 → Tx.isD (s.getD j 0) = true) := Lib.hid ⟨by
              rw [Tx.take_at hlt, Tx.valD_snoc, HC.out]; have h1 := HQ.out.1; have h2 := HY.out; omega, fun j hj => by
              rcases Nat.lt_or_ge j q with h | h
              · exact HQ.out.2 j h
              · obtain rfl : j = q := by omega
                rw [HC.out]; exact HDT.out⟩
            clear hov
            go_wp2_with fail
            go_round
            case rel => exact ⟨q + 1, 10 * U + (y - 48), by omega, by go_num, rfl, by omega, by omega, HST⟩
            case measure => simp [intOf]; omega
    · obtain rfl : q = s.length := by omega
      have HE := Lib.hid (show Tx.numS s = if s ≠ [] ∧ Dig.dec (Tx.numI s) = s then (Tx.numI s, true) else (0, false) from by
        have h1 := HQ.out.1
        rw [List.take_length] at h1
        rw [Tx.num_end (by rw [HTT.out]; unfold Tx.digB; rw [List.all_eq_true]; intro x hx; obtain ⟨j, hj, rfl⟩ := List.getElem_of_mem hx; have := HQ.out.2 j hj; rwa [show s.getD j 0 = s[j] by simp [List.getD, hj]] at this) (by rw [HTT.out, HMO.out]; omega), HTT.out])
      have HI : Hid (Tx.numI s = U) := Lib.hid (by rw [HNU.out]; have h1 := HQ.out.1; rw [List.take_length] at h1; rw [h1])
      clear HQ hlt hq
      have HDG := Lib.hid (fun W => digits_any (U) W (by omega) (by omega))
      have hz := HZ.out
      have hU1 : IntKind.i64.wrap U = U := IntWalk.i64_in _ (by omega)
      have h1 : ((s.length : Int) == 0) = false := by rw [beq_eq_false_iff_ne]; intro h; exact hs0 (List.length_eq_zero_iff.1 (by omega))
      have HT0 := Lib.hid hs0
      clear hs0
      · have HTN : Hid (s ≠ []) := Lib.hid (HT0.out)
        by_cases hd : Dig.dec (U) = s
        · have HR := Lib.hid (show Tx.numS s = (U, true) by rw [HE.out, HI.out, if_pos ⟨HTN.out, hd⟩])
          go_wp2_with fail
          refine (HDG.out _).mono ?_
          rintro e w2 ⟨rfl, hb⟩
          have hx2 := Box2.later hz hb
          obtain ⟨z0, z1, f0, f1⟩ := hx2.at
          have HST := Lib.hid (hx2.store (.int .i64 (U)) (.bool true))
          have HB2 := Lib.hid (((Below.refl _ w).alloc (Nat.le_refl _) _).trans (hb.mono (by simp)))
          rw [hd]
          clear hx2 hb hd
          go_wp2_with fail
          obtain ⟨we, hwe⟩ : ∃ we, (w2.setCell ⟨w.heap.size, 0, none⟩ (.int .i64 (U))).setCell ⟨w.heap.size, 1, none⟩ (.bool true) = we := ⟨_, rfl⟩
          have hbz : Box2 we w.heap.size 93 (.int .i64 (U)) (.bool true) := hwe ▸ HST.out
          have hbl : Below w.heap.size w we := by rw [← hwe]; exact (HB2.out.setCell (p := ⟨w.heap.size, 0, none⟩) (Nat.le_refl _) _).setCell (p := ⟨w.heap.size, 1, none⟩) (Nat.le_refl _) _
          show bodyPost _ _ _ .ret _ ((w2.setCell ⟨w.heap.size, 0, none⟩ (.int .i64 (U))).setCell ⟨w.heap.size, 1, none⟩ (.bool true))
          rw [hwe]
          exact bodyPost_ret (results_cellT rfl rfl (loadNum hbz)) rfl ⟨by rw [HR.out], hbl⟩
        · have HR := Lib.hid (show Tx.numS s = (0, false) by rw [HE.out, HI.out, if_neg (fun h => hd h.2)])
          go_wp2_with fail
          refine (HDG.out _).mono ?_
          rintro e w2 ⟨rfl, hb⟩
          have hx2 := Box2.later hz hb
          obtain ⟨z0, z1, f0, f1⟩ := hx2.at
          have HST := Lib.hid (hx2.store (.int .i64 0) (.bool false))
          have HB2 := Lib.hid (((Below.refl _ w).alloc (Nat.le_refl _) _).trans (hb.mono (by simp)))
          have hne : (Dig.dec (U) != s) = true := by simp [hd]
          have hne2 : (Dig.dec (U) == s) = false := by simp [hd]
          clear hx2 hb hd
          go_wp2_with fail
          obtain ⟨we, hwe⟩ : ∃ we, (w2.setCell ⟨w.heap.size, 0, none⟩ (.int .i64 0)).setCell ⟨w.heap.size, 1, none⟩ (.bool false) = we := ⟨_, rfl⟩
          have hbz : Box2 we w.heap.size 93 (.int .i64 0) (.bool false) := hwe ▸ HST.out
          have hbl : Below w.heap.size w we := by rw [← hwe]; exact (HB2.out.setCell (p := ⟨w.heap.size, 0, none⟩) (Nat.le_refl _) _).setCell (p := ⟨w.heap.size, 1, none⟩) (Nat.le_refl _) _
          show bodyPost _ _ _ .ret _ ((w2.setCell ⟨w.heap.size, 0, none⟩ (.int .i64 0)).setCell ⟨w.heap.size, 1, none⟩ (.bool false))
          rw [hwe]
          exact bodyPost_ret (results_cellT rfl rfl (loadNum hbz)) rfl ⟨by rw [HR.out], hbl⟩
set_option maxRecDepth 100000 in
set_option maxHeartbeats 4000000 in
theorem refNum_nil (w : World) : Calls Tryd.prog 35 #[.string ⟨#[]⟩] w (NumOut [] w) := by
  have hbz0 := Box2.new w 93 (.int .i64 0) (.bool false)
  have HR := Lib.hid (show Tx.numS [] = (0, false) from rfl)
  go_enter Tryd.func35, Tryd.ntmps35
  go_wp2_with fail
  go_loop [3, 6] (fun u i => i = .int .i64 0 ∧ u = .int .u64 0) (fun _ _ => 0)
  case atStart => exact ⟨rfl, rfl⟩
  case round =>
    obtain ⟨rfl, rfl⟩ := hrel
    go_wp2_with fail
    obtain ⟨we, hwe⟩ : ∃ we, w.alloc (.cells #[.int .i64 0, .bool false] 93) = we := ⟨_, rfl⟩
    have hbz : Box2 we w.heap.size 93 (.int .i64 0) (.bool false) := by rw [← hwe]; exact Box2.new w _ _ _
    have hbl : Below w.heap.size w we := by rw [← hwe]; exact (Below.refl _ w).alloc (Nat.le_refl _) _
    show bodyPost _ _ _ .ret _ (w.alloc (.cells #[.int .i64 0, .bool false] 93))
    rw [hwe]
    exact bodyPost_ret (results_cellT rfl rfl (loadNum hbz)) rfl ⟨by rw [HR.out], hbl⟩

theorem refNum_any (s : List UInt8) (w : World) (hl : s.length ≤ 1000000) : Calls Tryd.prog 35 #[.string ⟨s.toArray⟩] w (NumOut s w) := by
  by_cases h0 : s = []
  · subst h0; exact refNum_nil w
  · cases hn : Tx.negB s with
    | true => exact refNum_neg s w hl hn
    | false => exact refNum_pos s w hl hn h0
end Go.Proofs.YtahmddopbmjepaaDoor
