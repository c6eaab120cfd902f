/- The contract of the reference's Mix, how = 0. -/
import Derived.Test.YtchladbjhodkoaaSpMixBase
namespace Go.Proofs.Ytchladbjhodkoaa
open Go.RowKit

set_option maxRecDepth 100000 in
set_option maxHeartbeats 4000000 in
theorem refMix_0 (a1 a2 : Option Addr) (cap1 cap2 : Nat) (l1 l2 : List Sp.S) (w : World) (hn : l1.length + l2.length ≤ 100000) (h1 : Spans w a1 cap1 l1) (h2 : Spans w a2 cap2 l2) :
    Calls Try.prog 28 #[.int .i64 0, .slice a1 l1.length cap1, .slice a2 l2.length cap2] w (Mixed 0 l1 l2 w) := by
  have H1 := Lib.hid h1
  have H2 := Lib.hid h2
  have HM := Lib.hid (refMarks_any a1 a2 cap1 cap2 l1 l2 w hn h1 h2)
  clear h1 h2
  go_enter Try.func28, Try.ntmps28
  go_wp2_with fail
  refine HM.out.mono ?_
  rintro e w1 ⟨am, cm, rfl, hI, hb⟩
  have hlen := Sp.marksS_len (l1 ++ l2)
  have hlen2 : (Sp.marksS (l1 ++ l2)).length ≤ 300000 := by simp at hlen; omega
  have hpos : 0 < (Sp.marksS (l1 ++ l2)).length := List.length_pos_iff.2 (Sp.marksS_ne _)
  obtain ⟨bm, om, ham, hbm, _, hrm, hcm⟩ := hI.some (Sp.marksS_ne _)
  subst ham
  have HC := Lib.hid hcm
  have HB1 := Lib.hid hb
  clear hI hb hlen hrm hcm HM
  go_wp2_with fail
  go_loopw [8, 9] (fun vs i wr => ∃ (k : Nat) (v : Value), k + 1 ≤ (Sp.marksS (l1 ++ l2)).length ∧ v = vs ∧ i = .int .i64 k ∧ Hid (wr.ownsRow w1.heap.size 51 2 v (Sp.mixTo 0 l1 l2 (Sp.marksS (l1 ++ l2)) k).length (spanCells (Sp.mixTo 0 l1 l2 (Sp.marksS (l1 ++ l2)) k))) ∧ Hid (Below w1.heap.size w1 wr)) (fun _ i _ => (Sp.marksS (l1 ++ l2)).length - (intOf i).toNat)
  case atStart => exact ⟨0, _, by omega, rfl, rfl, Lib.hid (World.ownsRow_nil _ _ _ _), Lib.hid (Below.refl _ _)⟩
  case round =>
    obtain ⟨k, v, hk, rfl, rfl, HO, HB⟩ := hrel
    by_cases hlt : k + 1 < (Sp.marksS (l1 ++ l2)).length
    · have HA := Lib.hid ((H1.out.later HB1.out).later HB.out)
      have HA2 := Lib.hid ((H2.out.later HB1.out).later HB.out)
      have c0 : wr.cell? ⟨bm, om + k, none⟩ = some (.int .i64 ((Sp.marksS (l1 ++ l2)).getD k 0)) := (HB.out.cell (p := ⟨bm, om + k, none⟩) hbm).trans (HC.out k (by omega))
      have c1 : wr.cell? ⟨bm, om + (k + 1), none⟩ = some (.int .i64 ((Sp.marksS (l1 ++ l2)).getD (k + 1) 0)) := (HB.out.cell (p := ⟨bm, om + (k + 1), none⟩) hbm).trans (HC.out (k + 1) hlt)
      have hcx := Sp.mixTo_succ 0 l1 l2 (Sp.marksS (l1 ++ l2)) k
      have hLk := Sp.mixTo_len 0 l1 l2 (Sp.marksS (l1 ++ l2)) k
      generalize hp : (Sp.marksS (l1 ++ l2)).getD k 0 = p at c0 hcx
      generalize hq : (Sp.marksS (l1 ++ l2)).getD (k + 1) 0 = q at c1 hcx
      have HP := Lib.hid hp
      have HQ := Lib.hid hq
      have HX := Lib.hid hcx
      clear hp hq hcx
      go_upto_region 6 with (fail)
      go_quiet (first | (go_at_call_of 27 a1; exact Calls.quiet_of_same (refHas_same a1 cap1 l1 p _ (HA.out.drewN _))) | (go_at_call_of 27 a2; exact Calls.quiet_of_same (refHas_same a2 cap2 l2 p _ (HA2.out.drewN _))))
      generalize Sp.hasB l1 p = x at *
      generalize Sp.hasB l2 p = y at *
      generalize Sp.mixTo 0 l1 l2 (Sp.marksS (l1 ++ l2)) k = L at *
      obtain ⟨wq, hwq⟩ : ∃ wq, wr.drewN nq = wq := ⟨_, rfl⟩
      have hOq : wq.ownsRow w1.heap.size 51 2 v L.length (spanCells L) := by rw [← hwq]; exact HO.out
      have hBq : Below w1.heap.size w1 wq := by rw [← hwq]; exact below_drewN HB.out _
      have d0 : wq.cell? ⟨bm, om + k, none⟩ = some (.int .i64 p) := by rw [← hwq]; exact c0
      have d1 : wq.cell? ⟨bm, om + (k + 1), none⟩ = some (.int .i64 q) := by rw [← hwq]; exact c1
      rw [hwq]
      clear hwq c0 c1 HO HB HA HA2
      by_cases hc : Sp.cnd 0 x y = true
      · rw [hc] at HX
        cases x <;> cases y <;> try (exact absurd hc (by decide))
        all_goals
          clear hc
          have hqr : -9223372036854775807 ≤ q ∧ q ≤ 16384 := by
            have e : (Sp.marksS (l1 ++ l2)).getD (k + 1) 0 = (Sp.marksS (l1 ++ l2))[k + 1] := by simp [List.getD, hlt]
            have := Sp.marksS_range (l := l1 ++ l2) (x := (Sp.marksS (l1 ++ l2))[k + 1]) (List.getElem_mem _)
            rw [← e, HQ.out] at this
            omega
          have hpr : 0 ≤ p ∧ p ≤ 16384 := by
            have hk' : k < (Sp.marksS (l1 ++ l2)).length := by omega
            have e : (Sp.marksS (l1 ++ l2)).getD k 0 = (Sp.marksS (l1 ++ l2))[k] := by simp [List.getD, hk']
            have := Sp.marksS_range (l := l1 ++ l2) (x := (Sp.marksS (l1 ++ l2))[k]) (List.getElem_mem _)
            rw [← e, HP.out] at this
            exact this
          obtain ⟨q1, q2⟩ := hqr
          obtain ⟨p1, p2⟩ := hpr
          obtain ⟨i0, hi, hz0, hz1, hz2⟩ := info_parts Try.infoSpan
          by_cases hL : L = []
          · subst hL
            have hnew := Sp.addSeg_true_new (l := []) (p := p) (q := q) (by simp)
            have HS := Lib.hid (HX.out.trans hnew)
            clear hnew
            rcases Joins.ownsRow_forms hOq with ⟨rfl, _⟩ | ⟨g, cap, rfl⟩
            · have HOq := Lib.hid hOq
              clear hOq
              go_upto_region 15 with (fail)
              go_quiet (fail)
              go_upto_region 13 with (fail)
              obtain ⟨wz, hwz⟩ : ∃ wz, wq.drewN nq = wz := ⟨_, rfl⟩
              have hOz : wz.ownsRow w1.heap.size 51 2 (.slice none 0 0) 0 [] := by rw [← hwz]; exact HOq.out
              have hBz : Below w1.heap.size w1 wz := by rw [← hwz]; exact below_drewN hBq _
              have z0 : wz.cell? ⟨bm, om + k, none⟩ = some (.int .i64 p) := by rw [← hwz]; exact d0
              have z1 : wz.cell? ⟨bm, om + (k + 1), none⟩ = some (.int .i64 q) := by rw [← hwz]; exact d1
              rw [hwz]
              clear hwz d0 d1 HOq hBq
              have hbz : w1.heap.size ≤ wz.heap.size := hBz.size
              have hbmz : bm < wz.heap.size := by omega
              have HOz := Lib.hid hOz
              have HBz := Lib.hid hBz
              have kI0 : (0 : Int) ≤ (k : Int) := Int.natCast_nonneg _
              have kI1 : (k : Int) < ((Sp.marksS (l1 ++ l2)).length : Int) := by omega
              have kI2 : (k : Int) + 1 < ((Sp.marksS (l1 ++ l2)).length : Int) := by omega
              have ew1 : IntKind.i64.wrap ((k : Int) + 1) = (k : Int) + 1 := IntWalk.i64_in _ (by omega)
              have ew2 : 0 ≤ (k : Int) + 1 := by omega
              have ew3 : ((k : Int) + 1).toNat = k + 1 := by omega
              have ew4 : IntKind.i64.wrap (q - 1) = q - 1 := IntWalk.i64_in _ (by omega)
              clear hOz hBz
              go_region_held3 (fun w' => w'.cell? ⟨bm, om + k, none⟩ = some (.int .i64 p) ∧ w'.cell? ⟨bm, om + (k + 1), none⟩ = some (.int .i64 q))
                (first
                  | go_keep
                  | (go_split_ands
                     refine ⟨?_, ?_⟩
                     · (rw [hgrow.cell_far _ (by simp; omega) (by simp [Value.ownBlock])]; assumption)
                     · (rw [hgrow.cell_far _ (by simp; omega) (by simp [Value.ownBlock])]; assumption)))
                ((refine step_append_lies _ (by rfl) _ _ _ (by rfl) w1.heap.size 51 i0 _ 2 16 Try.underlying23 hi hz0 hz1 hz2 rfl (by omega) (.slice none 0 0) 0 ([]) (by rfl) ((HOz.out.alloc _).drew) ⟨wz.heap.size, 0, none⟩ 1 1 [.int .i64 p, .int .i64 (q - 1)] (by rfl) (by rfl) (World.news_of_block (cs := #[.int .i64 p, .int .i64 (q - 1)]) (t := 51) (fr := (0, 0)) (heap_alloc_new wz _)) (by simp [Value.oneCell']) (by omega) (by unfold maxLen; omega) (by omega) (by simp; omega) (wz.heap.size + 1) (by simp) ?_; intro gg capg w2 hown hgrow hat hltg))
              have hB2 : Below w1.heap.size w1 w2 := Below.grown ((HBz.out.alloc hbz _).drew) hgrow (by simp; omega) (by intro x hx; simp [Value.ownBlock] at hx)
              have hO2 : w2.ownsRow w1.heap.size 51 2 (.slice (some ⟨gg, 0, none⟩) (0 + 1) capg) ([] ++ [(p, q - 1)]).length (spanCells ([] ++ [(p, q - 1)])) := by
                have e1 : ([] ++ [(p, q - 1)]).length = 0 + 1 := by simp
                rw [e1, spanCells_snoc]
                simpa [spanCells] using hown
              have HB2 := Lib.hid hB2
              have HO2 := Lib.hid hO2
              clear hB2 hO2 hown hgrow hat hltg ew1 ew2 ew3 ew4
              go_wp2
              go_roundw
              case rel => exact ⟨k + 1, _, by omega, rfl, by go_num, by rw [HS.out]; exact HO2, HB2⟩
              case measure => simp [intOf]; omega

            · have hgl := (hOq.lt g rfl).1
              have HOq := Lib.hid hOq
              clear hOq
              go_upto_region 15 with (fail)
              go_quiet (fail)
              go_upto_region 13 with (fail)
              obtain ⟨wz, hwz⟩ : ∃ wz, wq.drewN nq = wz := ⟨_, rfl⟩
              have hOz : wz.ownsRow w1.heap.size 51 2 (.slice (some ⟨g, 0, none⟩) 0 cap) 0 [] := by rw [← hwz]; exact HOq.out
              have hBz : Below w1.heap.size w1 wz := by rw [← hwz]; exact below_drewN hBq _
              have z0 : wz.cell? ⟨bm, om + k, none⟩ = some (.int .i64 p) := by rw [← hwz]; exact d0
              have z1 : wz.cell? ⟨bm, om + (k + 1), none⟩ = some (.int .i64 q) := by rw [← hwz]; exact d1
              rw [hwz]
              clear hwz d0 d1 HOq hBq
              have hbz : w1.heap.size ≤ wz.heap.size := hBz.size
              have hbmz : bm < wz.heap.size := by omega
              have HOz := Lib.hid hOz
              have HBz := Lib.hid hBz
              have kI0 : (0 : Int) ≤ (k : Int) := Int.natCast_nonneg _
              have kI1 : (k : Int) < ((Sp.marksS (l1 ++ l2)).length : Int) := by omega
              have kI2 : (k : Int) + 1 < ((Sp.marksS (l1 ++ l2)).length : Int) := by omega
              have ew1 : IntKind.i64.wrap ((k : Int) + 1) = (k : Int) + 1 := IntWalk.i64_in _ (by omega)
              have ew2 : 0 ≤ (k : Int) + 1 := by omega
              have ew3 : ((k : Int) + 1).toNat = k + 1 := by omega
              have ew4 : IntKind.i64.wrap (q - 1) = q - 1 := IntWalk.i64_in _ (by omega)
              clear hOz hBz
              go_region_held3 (fun w' => w'.cell? ⟨bm, om + k, none⟩ = some (.int .i64 p) ∧ w'.cell? ⟨bm, om + (k + 1), none⟩ = some (.int .i64 q))
                (first
                  | go_keep
                  | (go_split_ands
                     refine ⟨?_, ?_⟩
                     · (rw [hgrow.cell_far _ (by simp; omega) (by simp [Value.ownBlock]; omega)]; assumption)
                     · (rw [hgrow.cell_far _ (by simp; omega) (by simp [Value.ownBlock]; omega)]; assumption)))
                ((refine step_append_lies _ (by rfl) _ _ _ (by rfl) w1.heap.size 51 i0 _ 2 16 Try.underlying23 hi hz0 hz1 hz2 rfl (by omega) (.slice (some ⟨g, 0, none⟩) 0 cap) 0 ([]) (by rfl) ((HOz.out.alloc _).drew) ⟨wz.heap.size, 0, none⟩ 1 1 [.int .i64 p, .int .i64 (q - 1)] (by rfl) (by rfl) (World.news_of_block (cs := #[.int .i64 p, .int .i64 (q - 1)]) (t := 51) (fr := (0, 0)) (heap_alloc_new wz _)) (by simp [Value.oneCell']) (by omega) (by unfold maxLen; omega) (by omega) (by simp; omega) (wz.heap.size + 1) (by simp) ?_; intro gg capg w2 hown hgrow hat hltg))
              have hB2 : Below w1.heap.size w1 w2 := Below.grown ((HBz.out.alloc hbz _).drew) hgrow (by simp; omega) (by intro x hx; simp [Value.ownBlock] at hx; omega)
              have hO2 : w2.ownsRow w1.heap.size 51 2 (.slice (some ⟨gg, 0, none⟩) (0 + 1) capg) ([] ++ [(p, q - 1)]).length (spanCells ([] ++ [(p, q - 1)])) := by
                have e1 : ([] ++ [(p, q - 1)]).length = 0 + 1 := by simp
                rw [e1, spanCells_snoc]
                simpa [spanCells] using hown
              have HB2 := Lib.hid hB2
              have HO2 := Lib.hid hO2
              clear hB2 hO2 hown hgrow hat hltg ew1 ew2 ew3 ew4
              go_wp2
              go_roundw
              case rel => exact ⟨k + 1, _, by omega, rfl, by go_num, by rw [HS.out]; exact HO2, HB2⟩
              case measure => simp [intOf]; omega

          · obtain ⟨L', t, rfl⟩ : ∃ L' t, L = L' ++ [t] := ⟨L.dropLast, L.getLast hL, (List.dropLast_concat_getLast hL).symm⟩
            have hlenL : (L' ++ [t]).length = L'.length + 1 := by simp
            rw [hlenL] at hOq hLk
            obtain ⟨g, cap, rfl⟩ := Joins.ownsRow_form hOq (by omega)
            have hgl := (hOq.lt g rfl).1
            have hlast := (hOq.cellAt (L'.length * 2 + 1) (by omega)).trans (spanCells_last L' t)
            have hfz := hOq.frozenAt (L'.length * 2 + 1)
            generalize hNn : L'.length = n at hOq hLk hlast hfz ⊢
            obtain ⟨tx, ty⟩ := t
            simp only at hlast
            have ew5 : IntKind.i64.wrap (p - 1) = p - 1 := IntWalk.i64_in _ (by omega)
            have ew6 : IntKind.i64.wrap ((n : Int) + 1 - 1) = (n : Int) := by rw [show (n : Int) + 1 - 1 = n from by omega]; exact IntWalk.i64_in _ (by omega)
            have ew7 : IntKind.i64.wrap (n : Int) = (n : Int) := IntWalk.i64_in _ (by omega)
            have nI : (0 : Int) ≤ (n : Int) := Int.natCast_nonneg _
            by_cases hj : ty = p - 1
            · have hnew := Sp.addSeg_true_join (l := L') (t := (tx, ty)) (p := p) (q := q) hj
              have HS := Lib.hid (HX.out.trans hnew)
              have hbq : (ty == p - 1) = true := by rw [beq_iff_eq]; exact hj
              have hst := hOq.stored (n * 2 + 1) (.int .i64 (q - 1))
              have hB3 : Below w1.heap.size w1 (wq.setCell ⟨g, n * 2 + 1, none⟩ (.int .i64 (q - 1))) := hBq.setCell hgl _
              have HST := Lib.hid hst.1
              have HB3 := Lib.hid hB3
              have hset : (spanCells (L' ++ [(tx, ty)])).set (n * 2 + 1) (Value.int .i64 (q - 1)) = spanCells (L' ++ [(tx, q - 1)]) := by rw [← hNn]; exact spanCells_set L' tx ty (q - 1)
              have HSET := Lib.hid hset
              have HNN := Lib.hid hNn
              have HBq := Lib.hid hBq
              clear hnew hj hst hB3 hOq hset hNn hBq hlenL
              go_upto_region 15 with (fail)
              go_quiet (fail)
              clear ew5 ew6 ew7
              have hO3 : Hid ((wq.setCell ⟨g, n * 2 + 1, none⟩ (.int .i64 (q - 1))).ownsRow w1.heap.size 51 2 (.slice (some ⟨g, 0, none⟩) (n + 1) cap) (L' ++ [(tx, q - 1)]).length (spanCells (L' ++ [(tx, q - 1)]))) := Lib.hid (by
                have e1 : (L' ++ [(tx, q - 1)]).length = n + 1 := by simp [HNN.out]
                rw [e1, ← HSET.out]; exact HST.out)
              go_wp2
              go_roundw
              case rel => exact ⟨k + 1, _, by omega, rfl, by go_num, by rw [HS.out]; exact Lib.hid hO3.out, Lib.hid ((below_drewN HBq.out _).setCell hgl _)⟩
              case measure => simp [intOf]; omega
            · have hnew := Sp.addSeg_true_new (l := L' ++ [(tx, ty)]) (p := p) (q := q) (by rintro ⟨_, h⟩; apply hj; simpa [List.getD] using h)
              have HS := Lib.hid (HX.out.trans hnew)
              have hbq : (ty == p - 1) = false := by rw [beq_eq_false_iff_ne]; exact hj
              have hXS : wq.ownsRow w1.heap.size 51 2 (.slice (some ⟨g, 0, none⟩) (n + 1) cap) (n + 1) (spanCells (L' ++ [(tx, ty)])) := hOq
              have HOq := Lib.hid hXS
              clear hnew hj hOq hXS hlenL
              go_upto_region 15 with (fail)
              go_quiet (fail)
              clear hlast hfz ew5 ew6 ew7
              go_upto_region 13 with (fail)
              obtain ⟨wz, hwz⟩ : ∃ wz, wq.drewN nq = wz := ⟨_, rfl⟩
              have hOz : wz.ownsRow w1.heap.size 51 2 (.slice (some ⟨g, 0, none⟩) (n + 1) cap) (n + 1) (spanCells (L' ++ [(tx, ty)])) := by rw [← hwz]; exact HOq.out
              have hBz : Below w1.heap.size w1 wz := by rw [← hwz]; exact below_drewN hBq _
              have z0 : wz.cell? ⟨bm, om + k, none⟩ = some (.int .i64 p) := by rw [← hwz]; exact d0
              have z1 : wz.cell? ⟨bm, om + (k + 1), none⟩ = some (.int .i64 q) := by rw [← hwz]; exact d1
              rw [hwz]
              clear hwz d0 d1 HOq hBq
              have hbz : w1.heap.size ≤ wz.heap.size := hBz.size
              have hbmz : bm < wz.heap.size := by omega
              have HOz := Lib.hid hOz
              have HBz := Lib.hid hBz
              have kI0 : (0 : Int) ≤ (k : Int) := Int.natCast_nonneg _
              have kI1 : (k : Int) < ((Sp.marksS (l1 ++ l2)).length : Int) := by omega
              have kI2 : (k : Int) + 1 < ((Sp.marksS (l1 ++ l2)).length : Int) := by omega
              have ew1 : IntKind.i64.wrap ((k : Int) + 1) = (k : Int) + 1 := IntWalk.i64_in _ (by omega)
              have ew2 : 0 ≤ (k : Int) + 1 := by omega
              have ew3 : ((k : Int) + 1).toNat = k + 1 := by omega
              have ew4 : IntKind.i64.wrap (q - 1) = q - 1 := IntWalk.i64_in _ (by omega)
              clear hOz hBz
              go_region_held3 (fun w' => w'.cell? ⟨bm, om + k, none⟩ = some (.int .i64 p) ∧ w'.cell? ⟨bm, om + (k + 1), none⟩ = some (.int .i64 q))
                (first
                  | go_keep
                  | (go_split_ands
                     refine ⟨?_, ?_⟩
                     · (rw [hgrow.cell_far _ (by simp; omega) (by simp [Value.ownBlock]; omega)]; assumption)
                     · (rw [hgrow.cell_far _ (by simp; omega) (by simp [Value.ownBlock]; omega)]; assumption)))
                ((refine step_append_lies _ (by rfl) _ _ _ (by rfl) w1.heap.size 51 i0 _ 2 16 Try.underlying23 hi hz0 hz1 hz2 rfl (by omega) (.slice (some ⟨g, 0, none⟩) (n + 1) cap) (n + 1) (spanCells (L' ++ [(tx, ty)])) (by rfl) ((HOz.out.alloc _).drew) ⟨wz.heap.size, 0, none⟩ 1 1 [.int .i64 p, .int .i64 (q - 1)] (by rfl) (by rfl) (World.news_of_block (cs := #[.int .i64 p, .int .i64 (q - 1)]) (t := 51) (fr := (0, 0)) (heap_alloc_new wz _)) (by simp [Value.oneCell']) (by omega) (by unfold maxLen; omega) (by omega) (by simp; omega) (wz.heap.size + 1) (by simp) ?_; intro gg capg w2 hown hgrow hat hltg))
              have hB2 : Below w1.heap.size w1 w2 := Below.grown ((HBz.out.alloc hbz _).drew) hgrow (by simp; omega) (by intro x hx; simp [Value.ownBlock] at hx; omega)
              have hO2 : w2.ownsRow w1.heap.size 51 2 (.slice (some ⟨gg, 0, none⟩) ((n + 1) + 1) capg) (L' ++ [(tx, ty)] ++ [(p, q - 1)]).length (spanCells (L' ++ [(tx, ty)] ++ [(p, q - 1)])) := by
                have e1 : (L' ++ [(tx, ty)] ++ [(p, q - 1)]).length = (n + 1) + 1 := by simp [hNn]
                rw [e1, spanCells_snoc]
                exact hown
              have HB2 := Lib.hid hB2
              have HO2 := Lib.hid hO2
              clear hB2 hO2 hown hgrow hat hltg ew1 ew2 ew3 ew4
              go_wp2
              go_roundw
              case rel => exact ⟨k + 1, _, by omega, rfl, by go_num, by rw [HS.out]; exact HO2, HB2⟩
              case measure => simp [intOf]; omega
      · have hcf : Sp.cnd 0 x y = false := by simpa using hc
        rw [hcf] at HX
        cases x <;> cases y <;> try (exact absurd hcf (by decide))
        all_goals
          clear hc hcf
          have HOq := Lib.hid hOq
          have HBq := Lib.hid hBq
          clear hOq hBq
          have hsame : Sp.addSeg L p q false = L := by unfold Sp.addSeg; simp
          have HS := Lib.hid (HX.out.trans hsame)
          clear hsame
          go_wp2
          go_roundw
          case rel => exact ⟨k + 1, _, by omega, rfl, by go_num, by rw [HS.out]; exact HOq, HBq⟩
          case measure => simp [intOf]; omega
    · have hkl : k = (Sp.marksS (l1 ++ l2)).length - 1 := by omega
      have hmix : Sp.mixTo 0 l1 l2 (Sp.marksS (l1 ++ l2)) k = Sp.mixS 0 l1 l2 := by rw [hkl]; rfl
      rw [hmix] at HO
      have hsl : (Sp.mixS 0 l1 l2).length ≤ 1000000 := by
        have := Sp.mixTo_len 0 l1 l2 (Sp.marksS (l1 ++ l2)) k
        rw [hmix] at this
        omega
      obtain ⟨a', cap', hv, hSp⟩ := spans_owned HO.out hsl (Sp.mixS_spec 0 l1 l2).1
      have HSp := Lib.hid hSp
      subst hv
      clear hkl hmix HO hSp
      go_wp2
      go_ret
      exact ⟨a', cap', rfl, HSp.out, HB1.out.trans (HB.out.mono HB1.out.size)⟩

end Go.Proofs.Ytchladbjhodkoaa
