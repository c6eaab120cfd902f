/- The contract of spans.May. -/
import Derived.Test.YtlbmkgnfbkimaaaDoorAwake
import Derived.StillTailTactics
namespace Go.Proofs.YtlbmkgnfbkimaaaDoor
open Go.RowKit Go.Shelf

set_option maxRecDepth 100000 in
set_option maxHeartbeats 4000000 in
open Classical in
theorem devMay_some (b off cap : Nat) (l : List Sp.S) (w : World) (hl : l.length ≤ 1000000) (hcap : l.length ≤ cap) (hint : ∀ s ∈ l, -9223372036854775808 ≤ s.1 ∧ s.1 ≤ 9223372036854775807 ∧ -9223372036854775808 ≤ s.2 ∧ s.2 ≤ 9223372036854775807) (hb : b < w.heap.size)
    (hc : ∀ k, k < l.length → w.cell? ⟨b, off + k * 2, none⟩ = some (.int .i64 (l.getD k (0, 0)).1) ∧ w.cell? ⟨b, off + k * 2 + 1, none⟩ = some (.int .i64 (l.getD k (0, 0)).2)) :
    Calls Tryd.prog 11 #[.slice (some ⟨b, off, none⟩) l.length cap] w fun e w' => e = .returned (.bool (decide (Sp.Valid l))) ∧ Below w.heap.size w w' := by
  have HC := Lib.hid hc
  have HI := Lib.hid hint
  clear hc hint
  go_enter Tryd.func11, Tryd.ntmps11
  go_wp2
  go_loopw [2, 7] (fun r i wr => ∃ k : Nat, k ≤ l.length ∧ r = .bool false ∧ i = .int .i64 k ∧ Hid (Sp.Valid (l.take k)) ∧ Hid (Below w.heap.size w wr)) (fun _ i _ => l.length - (intOf i).toNat)
  case atStart => exact ⟨0, Nat.zero_le _, rfl, rfl, Lib.hid ⟨by simp, by simp⟩, Lib.hid (Below.refl _ _)⟩
  case round =>
    obtain ⟨k, hk, rfl, rfl, HK, HB⟩ := hrel
    by_cases hlt : k < l.length
    · obtain ⟨c1, c2⟩ := HC.out k hlt
      rw [← HB.out.cell (p := ⟨b, off + k * 2, none⟩) hb] at c1
      rw [← HB.out.cell (p := ⟨b, off + k * 2 + 1, none⟩) hb] at c2
      obtain ⟨i1, i2, i3, i4⟩ := HI.out (l.getD k (0, 0)) (by simp [List.getD, hlt])
      have hsp : Spans wr (some ⟨b, off, none⟩) cap (l.take k) := by
        refine ⟨by rw [List.length_take]; omega, by rw [List.length_take]; omega, fun s hs => HI.out s (List.mem_of_mem_take hs), .inr ⟨b, off, rfl, Nat.lt_of_lt_of_le hb HB.out.size, fun j hj => ?_⟩⟩
        rw [List.length_take] at hj
        have := HC.out j (by omega)
        rw [HB.out.cell (p := ⟨b, off + j * 2, none⟩) hb, HB.out.cell (p := ⟨b, off + j * 2 + 1, none⟩) hb]
        rw [show (l.take k).getD j (0, 0) = l.getD j (0, 0) by simp [List.getD, show j < k by omega]]
        exact this
      have HSP := Lib.hid hsp
      clear hsp
      have HMA := Lib.hid (valid_take hlt)
      unfold mayAt at HMA
      generalize hs : l.getD k (0, 0) = s at c1 c2 i1 i2 i3 i4
      obtain ⟨x, y⟩ := s
      have HS := Lib.hid hs
      clear hs
      simp only at c1 c2 i1 i2 i3 i4
      have kI : (k : Int) < (l.length : Int) := by omega
      have kI0 : (0 : Int) ≤ (k : Int) := Int.natCast_nonneg _
      by_cases hx : x < 0
      · have hxb : decide (x < 0) = true := by simpa using hx
        have hnv : ¬ Sp.Valid l := fun hv => by
          have := (HMA.out.1 (valid_of_take hv (k + 1))).2
          rw [HS.out] at this
          omega
        have HNV := Lib.hid hnv
        clear hnv
        go_upto_region 4 with (fail)
        go_quiet (fail)
        go_wp2
        go_ret
        exact ⟨by rw [decide_eq_false HNV.out]; rfl, below_drewN (HB.out.alloc HB.out.size _) _⟩
      · have hxb : decide (x < 0) = false := by simpa using hx
        by_cases hy : y < x
        · have hyb : decide (y < x) = true := by simpa using hy
          have hnv : ¬ Sp.Valid l := fun hv => by
            have := (HMA.out.1 (valid_of_take hv (k + 1))).2
            rw [HS.out] at this
            omega
          have HNV := Lib.hid hnv
          clear hnv
          go_upto_region 4 with (fail)
          go_quiet (fail)
          go_wp2
          go_ret
          exact ⟨by rw [decide_eq_false HNV.out]; rfl, below_drewN (HB.out.alloc HB.out.size _) _⟩
        · have hyb : decide (y < x) = false := by simpa using hy
          by_cases hz : 16384 ≤ y
          · have hzb : decide (16384 ≤ y) = true := by simpa using hz
            have hnv : ¬ Sp.Valid l := fun hv => by
              have := (HMA.out.1 (valid_of_take hv (k + 1))).2
              rw [HS.out] at this
              omega
            have HNV := Lib.hid hnv
            clear hnv
            go_upto_region 4 with (fail)
            go_quiet (fail)
            go_wp2
            go_ret
            exact ⟨by rw [decide_eq_false HNV.out]; rfl, below_drewN (HB.out.alloc HB.out.size _) _⟩
          · have hzb : decide (16384 ≤ y) = false := by simpa using hz
            have hfo : ∀ W, Below wr.heap.size wr W → Calls Tryd.prog 30 #[.slice (some ⟨b, off, none⟩) k cap, .agg #[.int .i64 x, .int .i64 y]] W fun e w' => e = .returned (.bool (Rs.foll (l.take k) (x, y))) ∧ Below W.heap.size W w' := fun W hW => by
              have h := follows_any (some ⟨b, off, none⟩) cap (l.take k) (x, y) W (by rw [List.length_take]; omega) (fun t ht => by have := HK.out.1 t ht; omega) (HSP.out.later hW)
              rw [show (l.take k).length = k by rw [List.length_take]; omega] at h
              exact h
            have hkc : (k : Int) ≤ (cap : Int) := by omega
            have hfv : Rs.foll (l.take k) (x, y) = decide (0 < k → (l.getD (k - 1) (0, 0)).2 + 1 < x) := by
              unfold Rs.foll
              by_cases hk0 : 0 < k
              · have h1 : (l.take k).isEmpty = false := by
                  cases l with
                  | nil => simp at hlt
                  | cons a l => cases k with
                    | zero => omega
                    | succ k => simp
                have h2 : (l.take k).getD ((l.take k).length - 1) (0, 0) = l.getD (k - 1) (0, 0) := by
                  rw [show (l.take k).length = k by rw [List.length_take]; omega]
                  simp [List.getD, show k - 1 < k by omega]
                rw [h1, h2, Bool.false_or]
                simp [hk0]
              · have h1 : (l.take k).isEmpty = true := by
                  have : k = 0 := by omega
                  subst this
                  simp
                rw [h1, Bool.true_or]
                simp [hk0]
            rw [hfv] at hfo
            clear hfv
            by_cases hj : 0 < k → (l.getD (k - 1) (0, 0)).2 + 1 < x
            · rw [decide_eq_true hj] at hfo
              have HFO := Lib.hid hfo
              have hv2 : Sp.Valid (l.take (k + 1)) := HMA.out.2 ⟨HK.out, by rw [HS.out]; exact ⟨by omega, by omega, by omega, hj⟩⟩
              have HV2 := Lib.hid hv2
              clear hv2 hj hfo
              go_upto_region 4 with (fail)
              obtain ⟨w2, hw2⟩ : ∃ w2, (wr.alloc (.cells #[.int .i64 x, .int .i64 y] 39)).drew = w2 := ⟨_, rfl⟩
              have hk2 : w2.heap[wr.heap.size]? = some (.cells #[.int .i64 x, .int .i64 y] 39 (0, 0)) := by rw [← hw2]; exact World.alloc_heap_new wr _
              have hb2 : Below w.heap.size w w2 := by rw [← hw2]; exact (HB.out.alloc HB.out.size _).drew
              have hfo2 : Calls Tryd.prog 30 #[.slice (some ⟨b, off, none⟩) k cap, .agg #[.int .i64 x, .int .i64 y]] w2 fun e w' => e = .returned (.bool true) ∧ Below w2.heap.size w2 w' := HFO.out w2 (by rw [← hw2]; exact ((Below.refl _ _).alloc (Nat.le_refl _) _).drew)
              refine wp_region_still_tail 20 (by kernel_rfl) (by kernel_rfl) ?_
              simp only [List.take_succ_cons, List.take_zero, List.drop_succ_cons, List.drop_zero]
              change wpStill _ _ (wr.alloc (.cells #[.int .i64 x, .int .i64 y] 39)).drew _ _ _
              rw [hw2]
              obtain ⟨e1, e2, -, -⟩ := cells_two hk2
              have HB2 := Lib.hid hb2
              have HFO2 := Lib.hid hfo2
              clear hk2 hb2 hfo2
              repeat still_step
              refine wpStill_nil ?_
              change wpList _ _ _ _ _ (wr.alloc (.cells #[.int .i64 x, .int .i64 y] 39)).drew
              rw [hw2]
              clear hw2
              go_wp2_with (go_at_call 30; refine HFO2.out.mono ?_; rintro e w3 ⟨rfl, hb3⟩; have HB3 := Lib.hid hb3; clear hb3)
              go_roundw
              case rel => exact ⟨k + 1, by omega, rfl, by go_num, HV2, Lib.hid (HB2.out.trans (HB3.out.mono HB2.out.size))⟩
              case measure => simp [intOf]; omega
            · rw [decide_eq_false hj] at hfo
              have HFO := Lib.hid hfo
              have hnv : ¬ Sp.Valid l := fun hv => by
                have h := (HMA.out.1 (valid_of_take hv (k + 1))).2
                rw [HS.out] at h
                exact hj h.2.2.2
              have HNV := Lib.hid hnv
              clear hnv hj hfo
              go_upto_region 4 with (fail)
              obtain ⟨w2, hw2⟩ : ∃ w2, (wr.alloc (.cells #[.int .i64 x, .int .i64 y] 39)).drew = w2 := ⟨_, rfl⟩
              have hk2 : w2.heap[wr.heap.size]? = some (.cells #[.int .i64 x, .int .i64 y] 39 (0, 0)) := by rw [← hw2]; exact World.alloc_heap_new wr _
              have hb2 : Below w.heap.size w w2 := by rw [← hw2]; exact (HB.out.alloc HB.out.size _).drew
              have hfo2 : Calls Tryd.prog 30 #[.slice (some ⟨b, off, none⟩) k cap, .agg #[.int .i64 x, .int .i64 y]] w2 fun e w' => e = .returned (.bool false) ∧ Below w2.heap.size w2 w' := HFO.out w2 (by rw [← hw2]; exact ((Below.refl _ _).alloc (Nat.le_refl _) _).drew)
              refine wp_region_still_tail 20 (by kernel_rfl) (by kernel_rfl) ?_
              simp only [List.take_succ_cons, List.take_zero, List.drop_succ_cons, List.drop_zero]
              change wpStill _ _ (wr.alloc (.cells #[.int .i64 x, .int .i64 y] 39)).drew _ _ _
              rw [hw2]
              obtain ⟨e1, e2, -, -⟩ := cells_two hk2
              have HB2 := Lib.hid hb2
              have HFO2 := Lib.hid hfo2
              clear hk2 hb2 hfo2
              repeat still_step
              refine wpStill_nil ?_
              change wpList _ _ _ _ _ (wr.alloc (.cells #[.int .i64 x, .int .i64 y] 39)).drew
              rw [hw2]
              clear hw2
              go_wp2_with (go_at_call 30; refine HFO2.out.mono ?_; rintro e w3 ⟨rfl, hb3⟩; have HB3 := Lib.hid hb3; clear hb3)
              go_ret
              exact ⟨by rw [decide_eq_false HNV.out]; rfl, HB2.out.trans (HB3.out.mono HB2.out.size)⟩
    · have hv : Sp.Valid l := by
        have := HK.out
        rw [List.take_of_length_le (by omega)] at this
        exact this
      have HV := Lib.hid hv
      clear hv
      go_wp2
      go_ret
      exact ⟨by rw [decide_eq_true HV.out]; rfl, HB.out⟩

set_option maxRecDepth 100000 in
set_option maxHeartbeats 1000000 in
theorem devMay_nil (a : Option Addr) (cap : Nat) (w : World) :
    Calls Tryd.prog 11 #[.slice a 0 cap] w fun e w' => e = .returned (.bool true) ∧ w = w' := by
  go_enter Tryd.func11, Tryd.ntmps11
  go_wp2
  go_loop [2, 7] (fun r i => r = .bool false ∧ i = .int .i64 0) (fun _ _ => 0)
  case atStart => exact ⟨rfl, rfl⟩
  case round =>
    obtain ⟨rfl, rfl⟩ := hrel
    go_wp2
    go_ret
    exact ⟨rfl, rfl⟩

open Classical in
theorem devMay_any (a : Option Addr) (cap : Nat) (l : List Sp.S) (w : World) (hl : l.length ≤ 1000000) (h : Spans w a cap l) :
    Calls Tryd.prog 11 #[.slice a l.length cap] w fun e w' => e = .returned (.bool (decide (Sp.Valid l))) ∧ Below w.heap.size w w' := by
  obtain ⟨h0, _, h2, h3⟩ := h
  rcases h3 with rfl | ⟨b, off, rfl, hb, hc⟩
  · refine (devMay_nil a cap w).mono fun e w' ⟨he, hw⟩ => ⟨?_, hw ▸ Below.refl _ _⟩
    rw [he, decide_eq_true]
    exact ⟨by simp, by simp⟩
  · exact devMay_some b off cap l w hl h0 h2 hb hc

end Go.Proofs.YtlbmkgnfbkimaaaDoor
