/- The contract of the statements' own 'awake': the document's example. -/
import Derived.Test.YtlbmkgnfbkimaaaDoorDevRead
namespace Go.Proofs.YtlbmkgnfbkimaaaDoor
open Go.RowKit Go.Shelf

theorem ex_read : readD [48, 45, 53, 44, 55] = some [(0, 5), (7, 7)] := by decide
theorem ex_mix : Sp.mixS 0 [(7, 7), (0, 5)] [] = [(0, 5), (7, 7)] := by decide
theorem ex_count : sumS (Sp.mixS 0 [(0, 5), (7, 7)] []) = 7 := by decide
theorem dig_small {n : Int} (h0 : 0 ≤ n) (h1 : n < 10) : Dig.dec n = [UInt8.ofNat (48 + n.toNat)] := by
  unfold Dig.dec
  rw [if_neg (by omega), Dig.digs_small (by omega)]
theorem ex_text : textS (Sp.mixS 0 [(7, 7), (0, 5)] []) = [48, 45, 53, 44, 55] := by
  rw [ex_mix]
  have d0 := dig_small (n := 0) (by decide) (by decide)
  have d5 := dig_small (n := 5) (by decide) (by decide)
  have d7 := dig_small (n := 7) (by decide) (by decide)
  simp [textS, textTo, oneT, d0, d5, d7, List.getD]

/-- two spans in a block that was just laid. -/
theorem spans_lit (w : World) : Spans (w.alloc (.cells #[.int .i64 7, .int .i64 7, .int .i64 0, .int .i64 5] 39)) (some ⟨w.heap.size, 0, none⟩) 2 [(7, 7), (0, 5)] := by
  have hk := World.alloc_heap_new w (.cells #[.int .i64 7, .int .i64 7, .int .i64 0, .int .i64 5] 39)
  refine ⟨by decide, by decide, by decide, .inr ⟨w.heap.size, 0, rfl, by simp, fun k hk' => ?_⟩⟩
  have hc : ∀ j, (w.alloc (.cells #[.int .i64 7, .int .i64 7, .int .i64 0, .int .i64 5] 39)).cell? ⟨w.heap.size, j, none⟩ = (#[Value.int .i64 7, .int .i64 7, .int .i64 0, .int .i64 5] : Array Value)[j]? := fun j => cell_of_row _ _ j _ 39 (0, 0) hk
  rw [hc, hc]
  match k, hk' with
  | 0, _ => exact ⟨rfl, rfl⟩
  | 1, _ => exact ⟨rfl, rfl⟩

set_option maxRecDepth 100000 in
set_option maxHeartbeats 4000000 in
theorem awake_any (w : World) (ht : Tab w) : Calls Tryd.prog 10 #[] w fun e w' => e = .returned (.bool true) ∧ Below w.heap.size w w' := by
  have hrd := callsIn_wide.1 (read_any ⟨#[48, 45, 53, 44, 55]⟩ w (by decide))
  have hread : readD (⟨#[48, 45, 53, 44, 55]⟩ : ByteArray).data.toList = some [(0, 5), (7, 7)] := ex_read
  rw [hread] at hrd
  have HT := Lib.hid ht
  clear ht hread
  go_enter Tryd.func10, Tryd.ntmps10
  go_wp2_with (go_at_call 26; refine hrd.mono ?_; rintro e w1 ⟨v, rfl, hrow, hb1⟩; obtain ⟨a, cap, rfl, hsp, -⟩ := spans_of_row (zs := [(0, 5), (7, 7)]) hrow (by decide) (by decide); have HSP := Lib.hid hsp; have HB1 := Lib.hid hb1; have htx := callsIn_wide.1 (text_any (some ⟨w1.heap.size, 0, none⟩) 2 [(7, 7), (0, 5)] _ (by decide) (spans_lit w1) (tab_later HT.out (hb1.alloc hb1.size _))); rw [ex_text] at htx; clear hrd hrow hb1 hsp)
  go_wp2_with (go_at_call 20; refine htx.mono ?_; rintro e w2 ⟨rfl, hb2⟩; have hb12 : Below w1.heap.size w1 w2 := ((Below.refl _ w1).alloc (Nat.le_refl _) _).trans (hb2.mono (by simp)); have hct := callsIn_wide.1 (count_any a cap [(0, 5), (7, 7)] w2 (by decide) (HSP.out.later hb12)); rw [ex_count] at hct; have HB2 := Lib.hid hb12; clear hb2 hb12 htx)
  go_wp2_with (go_at_call 18; refine hct.mono ?_; rintro e w3 ⟨rfl, hb3⟩; have HB3 := Lib.hid hb3; clear hb3 hct)
  go_ret
  exact ⟨rfl, (HB1.out.trans (HB2.out.mono HB1.out.size)).trans (HB3.out.mono (Nat.le_trans HB1.out.size HB2.out.size))⟩

end Go.Proofs.YtlbmkgnfbkimaaaDoor
