/- The laws' example. -/
import Derived.Test.YtcjbfgkmpoebgaaDoorRpLaw
namespace Go.Proofs.YtcjbfgkmpoebgaaDoor
open Go.RowKit Go.Shelf
attribute [local go_sem] Oper.semAt_some
set_option linter.unusedVariables false
set_option linter.unusedSimpArgs false

def wakeB : List UInt8 := [42, 49, 13, 10, 36, 49, 13, 10, 97, 13, 10]
def wakeR : Rp.R := .mk 6 [] 0 [.mk 4 [97] 0 []]
theorem dec_one : Dig.dec 1 = [49] := by
  unfold Dig.dec
  rw [if_neg (by decide)]
  exact Dig.digs_small (by decide)
theorem wake_enc : Rp.enc wakeR = wakeB := by
  simp [wakeR, wakeB, Rp.enc, Rp.encL, Rp.own, Rp.crlf, dec_one]
theorem wake_get : getO wakeB 0 = .ok wakeR [] := by
  have h := Rp.get_put (r := wakeR) (by decide) (fun p hp => by
    simp [wakeR, Rp.heads, Rp.headsL] at hp
    rcases hp with rfl | rfl <;> exact ⟨by decide, by decide⟩) []
  rw [List.append_nil, wake_enc] at h
  unfold getO
  rw [if_neg (by decide)]
  exact h

/-- Put of RNil. -/
theorem put_nil (w : World) (henv : Env w) : Calls Tryd.prog 13 #[.agg #[.int .i64 5, .string ⟨#[]⟩, .int .i64 0, .slice none 0 0]] w fun e W => ∃ a cap, e = .returned (.slice a 5 cap) ∧ (convert 28 9 (.slice a 5 cap)).run Tryd.prog W = .ok (.string ⟨#[36, 45, 49, 13, 10]⟩) W ∧ Below w.heap.size w W := by
  have h := callsIn_wide.1 (put_any (.mk 5 [] 0 []) none 0 w (by simp [Rp.heads, Rp.headsL]) (fun p hp hk => by
    simp [Rp.heads, Rp.headsL] at hp
    subst hp
    rcases hk with hk | hk <;> cases hk) henv (Rep.intro (by unfold Fit; simp) (.inl rfl)))
  have e : Rp.putB (.mk 5 [] 0 []) = [36, 45, 49, 13, 10] := by
    unfold Rp.putB
    rw [if_pos (by decide)]
    have h1 : Dig.dec (-1) = [45, 49] := by
      unfold Dig.dec
      rw [if_pos (by decide)]
      show 45 :: Dig.digs 1 = _
      rw [Dig.digs_small (by decide)]
      rfl
    simp [Rp.enc, Rp.encL, Rp.own, Rp.crlf, h1]
  rw [e] at h
  refine Calls.mono (R := fun e W' => ∃ v, e = .returned v ∧ Buf w.heap.size [36, 45, 49, 13, 10] v W' ∧ Below w.heap.size w W') h ?_
  rintro e W ⟨v, rfl, hb, hl⟩
  have hc := hb.conv
  obtain ⟨a, cap, rfl, _⟩ := hb.bt
  exact ⟨a, cap, rfl, hc, hl⟩

theorem rep_wake {S : Nat → Prop} {W : World} {k m : Int} {s : ByteArray} {a : Option Addr} {l cap : Nat} (h : Rep S W wakeR (.agg #[.int .i64 k, .string s, .int .i64 m, .slice a l cap])) :
    ∃ b off, k = 6 ∧ a = some ⟨b, off, none⟩ ∧ l = 1 ∧ 1 ≤ cap ∧ cap ≤ 9223372036854775807 ∧ b < W.heap.size ∧ W.cell? ⟨b, off + 1, none⟩ = some (.string ⟨#[97]⟩) := by
  obtain ⟨a', cap', hv, hf, hl⟩ := h.parts
  unfold rv at hv
  simp only [wakeR, Rp.R.k, Rp.R.s, Rp.R.n, Rp.R.l, Value.agg.injEq, Array.mk.injEq, List.cons.injEq, and_true, Value.int.injEq, true_and, Value.string.injEq, Value.slice.injEq, List.length_cons, List.length_nil, Nat.zero_add] at hv
  obtain ⟨rfl, -, -, rfl, rfl, rfl⟩ := hv
  unfold Fit at hf
  simp only [wakeR, Rp.R.l, List.length_cons, List.length_nil, Nat.zero_add] at hf
  rcases hl with hl | ⟨b, off, rfl, _, hlt, hr⟩
  · cases hl
  · refine ⟨b, off, rfl, rfl, rfl, by omega, by omega, hlt, ?_⟩
    obtain ⟨v0, v1, v2, v3, c0, c1, c2, c3, hrep⟩ := hr.get 0 (by simp [wakeR, Rp.R.l])
    obtain ⟨a2, cap2, hv2, _⟩ := hrep.parts
    unfold rv at hv2
    simp only [wakeR, Rp.R.k, Rp.R.s, Rp.R.n, Rp.R.l, Value.agg.injEq, Array.mk.injEq, List.cons.injEq, and_true, List.getElem_cons_zero] at hv2
    obtain ⟨-, rfl, -, -⟩ := hv2
    simpa using c1

set_option maxRecDepth 100000 in
set_option maxHeartbeats 4000000 in
theorem awake_any (w : World) (henv : Env w) : Calls Tryd.prog 10 #[] w fun e W => e = .returned (.bool true) ∧ Below w.heap.size w W := by
  have hcv : ∀ W' : World, (convert 28 28 (.slice (some ⟨W'.heap.size, 0, none⟩) 11 11)).run Tryd.prog (W'.alloc (.cells #[.int .u8 42, .int .u8 49, .int .u8 13, .int .u8 10, .int .u8 36, .int .u8 49, .int .u8 13, .int .u8 10, .int .u8 97, .int .u8 13, .int .u8 10] 5)) = .ok (.slice (some ⟨W'.heap.size, 0, none⟩) 11 11) (W'.alloc (.cells #[.int .u8 42, .int .u8 49, .int .u8 13, .int .u8 10, .int .u8 36, .int .u8 49, .int .u8 13, .int .u8 10, .int .u8 97, .int .u8 13, .int .u8 10] 5 (11, 12))) :=
    fun W' => Lib.run_convert_bytes_const W' 28 5 _ 11 11 Tryd.underlying28 Tryd.underlying5
  obtain ⟨W2, hW2⟩ : ∃ W2, w.alloc (.cells #[.int .u8 42, .int .u8 49, .int .u8 13, .int .u8 10, .int .u8 36, .int .u8 49, .int .u8 13, .int .u8 10, .int .u8 97, .int .u8 13, .int .u8 10] 5 (11, 12)) = W2 := ⟨_, rfl⟩
  have hb2 : Below w.heap.size w W2 := by rw [← hW2]; exact (Below.refl _ w).alloc (Nat.le_refl _) _
  have hbt : Bt (fun i => i < W2.heap.size) W2 (some ⟨w.heap.size, 0, none⟩) 11 wakeB := by
    have hx := World.alloc_heap_new w (.cells #[.int .u8 42, .int .u8 49, .int .u8 13, .int .u8 10, .int .u8 36, .int .u8 49, .int .u8 13, .int .u8 10, .int .u8 97, .int .u8 13, .int .u8 10] 5 (11, 12))
    rw [hW2] at hx
    refine Bt.of_block hx (fun k hk => ?_) (by decide) (by decide)
    have hk2 : k < 11 := hk
    match k, hk2 with
    | 0, _ => rfl
    | 1, _ => rfl
    | 2, _ => rfl
    | 3, _ => rfl
    | 4, _ => rfl
    | 5, _ => rfl
    | 6, _ => rfl
    | 7, _ => rfl
    | 8, _ => rfl
    | 9, _ => rfl
    | 10, _ => rfl
  have hget := get_any wakeB 0 (some ⟨w.heap.size, 0, none⟩) 11 W2 (by decide) (by decide) (by decide) hbt (henv.later hb2)
  rw [wake_get] at hget
  have HGET := Lib.hid hget
  have HW2 := Lib.hid hW2
  have HB2 := Lib.hid hb2
  have HENV := Lib.hid henv
  clear hget hW2 hb2 hbt henv
  go_enter Tryd.func10, Tryd.ntmps10
  go_wp2_with fail
  rw [HW2.out]
  clear HW2
  refine HGET.out.mono ?_
  rintro e w3 ⟨hb3, k, s, m, a, l, cap, rfl, hrep⟩
  obtain ⟨b, off, rfl, rfl, rfl, hc1, hc2, hlt, hcell⟩ := rep_wake hrep
  have HB3 := Lib.hid (HB2.out.trans (hb3.mono HB2.out.size))
  clear hrep hb3
  go_upto_region 2 with (fail)
  obtain ⟨w4, hw4⟩ : ∃ w4, w3.alloc (.cells #[.int .i64 6, .string s, .int .i64 m, .slice (some ⟨b, off, none⟩) 1 cap] 24) = w4 := ⟨_, rfl⟩
  have hx4 := World.alloc_heap_new w3 (.cells #[.int .i64 6, .string s, .int .i64 m, .slice (some ⟨b, off, none⟩) 1 cap] 24)
  have hb4 : Below w3.heap.size w3 w4 := by rw [← hw4]; exact (Below.refl _ w3).alloc (Nat.le_refl _) _
  rw [hw4] at hx4 ⊢
  have hcell4 := (hb4.cell (p := ⟨b, off + 1, none⟩) hlt).trans hcell
  have HB4 := Lib.hid (HB3.out.trans (hb4.mono HB3.out.size))
  have HX4 := Lib.hid hx4
  have HC4 := Lib.hid hcell4
  have HLT := Lib.hid (Nat.lt_of_lt_of_le hlt hb4.size)
  clear hw4 hx4 hb4 hcell4 hcell hlt
  go_wp2_with fail
  refine (put_nil _ (HENV.out.later HB4.out)).mono ?_
  rintro e w5 ⟨a5, c5, rfl, hcv5, hb5⟩
  have hx5 := (hb5.block w3.heap.size (Array.getElem?_eq_some_iff.1 HX4.out).1).trans HX4.out
  obtain ⟨b0, b1, b2, b3⟩ := cells_four hx5
  have hcell5 := (hb5.cell (p := ⟨b, off + 1, none⟩) HLT.out).trans HC4.out
  have HB5 := Lib.hid (HB4.out.trans (hb5.mono HB4.out.size))
  clear hb5 hx5
  have hcI : (1 : Int) ≤ (cap : Int) := by omega
  go_wp2_with fail
  refine (num_law _ _).mono ?_
  rintro e w6 ⟨rfl, rfl⟩
  go_wp2_with fail
  go_ret
  exact ⟨rfl, HB5.out⟩
end Go.Proofs.YtcjbfgkmpoebgaaDoor
