/- The walk of the law RespBytes. -/
import Derived.Test.YtbkhnnjjpelfcaaGreatDoorRpRefReply
import Derived.Test.YtbkhnnjjpelfcaaGreatDoorRpWords
import Derived.Test.YtbkhnnjjpelfcaaGreatDoorRpRefMayAll
import Derived.Deep.RegionHeld3
namespace Go.Proofs.YtbkhnnjjpelfcaaGreatDoor
open Go.RowKit Go.Shelf
attribute [local go_sem] Oper.semAt_some
set_option linter.unusedVariables false
set_option linter.unusedSimpArgs false

theorem bt_lt {W : World} {a : Option Addr} {c : Nat} {xs : List UInt8} (h : Bt (fun _ => True) W a c xs) : Bt (fun i => i < W.heap.size) W a c xs := ⟨h.1, h.2.1, h.2.2.imp id fun ⟨b, off, h1, _, h2, h3⟩ => ⟨b, off, h1, h2, h2, h3⟩⟩
theorem rd_store {w W : World} {B : Nat} {x y z u n e : Value} (h : Rd6 W w.heap.size x y z u n e) (hb : Below w.heap.size w W) (x' y' z' u' n' e' : Value) :
    Rd6 (set6 W w.heap.size x' y' z' u' n' e') w.heap.size x' y' z' u' n' e' ∧ Below w.heap.size w (set6 W w.heap.size x' y' z' u' n' e') :=
  ⟨h.set _ _ _ _ _ _, set6_below hb (Nat.le_refl _) _ _ _ _ _ _⟩

set_option maxRecDepth 100000 in
set_option maxHeartbeats 4000000 in
theorem getReply_any (B : List UInt8) (at_ : Int) (w : World) (hl : B.length ≤ 3000) (a0 : -9223372036854775808 ≤ at_) (a1 : at_ ≤ 9223372036854775807) :
    Calls Tryz.prog 16 #[.string ⟨B.toArray⟩, .int .i64 at_] w (RdR B.length w (getO B at_)) := by
  obtain ⟨w1, hw1⟩ : ∃ w1, w.alloc (.cells #[.int .i64 0, .string ⟨#[]⟩, .int .i64 0, .slice none 0 0, .int .i64 0, .int .i64 0] 51) = w1 := ⟨_, rfl⟩
  have hz : Rd6 w1 w.heap.size (.int .i64 0) (.string ⟨#[]⟩) (.int .i64 0) (.slice none 0 0) (.int .i64 0) (.int .i64 0) := by rw [← hw1]; exact Rd6.new w _ _ _ _ _ _
  have hb1 : Below w.heap.size w w1 := by rw [← hw1]; exact (Below.refl _ w).alloc (Nat.le_refl _) _
  have hsz : w1.heap.size = w.heap.size + 1 := by rw [← hw1]; simp
  have hlI : (B.length : Int) ≤ 3000 := by omega
  have HW1 := Lib.hid hw1
  have HZ := Lib.hid hz
  have HB := Lib.hid hb1
  clear hw1 hz hb1
  by_cases hbad : at_ < 0 ∨ (B.length : Int) < at_
  · have hR : getO B at_ = .err 1 := by unfold getO; rw [if_pos hbad]
    rw [hR]
    clear hR
    have hor : at_ < 0 ∨ (¬ at_ < 0 ∧ (B.length : Int) < at_) := by omega
    clear hbad
    rcases hor with h | ⟨h, h'⟩
    all_goals
      go_enter Tryz.func16, Tryz.ntmps16
      go_upto_region 1 with (fail)
      rw [show w.alloc (.cells #[.int .i64 0, .string ⟨#[]⟩, .int .i64 0, .slice none 0 0, .int .i64 0, .int .i64 0] 51) = w1 from HW1.out]
      clear HW1
      go_wp2_with fail
      refine (bad_any 1 w1).mono ?_
      rintro e wb ⟨rfl, hbb⟩
      unfold badV
      have HZb := Lib.hid (HZ.out.later hbb)
      have HBb := Lib.hid (HB.out.trans (hbb.mono HB.out.size))
      obtain ⟨z0, z1, z2, z3, z4, z5⟩ := HZb.out.cells
      obtain ⟨f0, f1, f2, f3, f4, f5⟩ := HZb.out.cells'
      clear hbb
      go_wp2
      have hs := HZb.out.set (.int .i64 0) (.string ⟨#[]⟩) (.int .i64 0) (.slice none 0 0) (.int .i64 0) (.int .i64 1)
      have hb := set6_below HBb.out (b := w.heap.size) (by omega) (.int .i64 0) (.string ⟨#[]⟩) (.int .i64 0) (.slice none 0 0) (.int .i64 0) (.int .i64 1)
      show bodyPost _ _ _ .ret _ (set6 wb (w.heap.size) (.int .i64 0) (.string ⟨#[]⟩) (.int .i64 0) (.slice none 0 0) (.int .i64 0) (.int .i64 1))
      generalize set6 wb (w.heap.size) (.int .i64 0) (.string ⟨#[]⟩) (.int .i64 0) (.slice none 0 0) (.int .i64 0) (.int .i64 1) = wend at hs hb
      exact bodyPost_ret (results_cell rfl rfl (loadRd hs)) rfl ⟨hb, by decide, rfl⟩
  · obtain ⟨k, rfl⟩ := Int.eq_ofNat_of_zero_le (show 0 ≤ at_ by omega)
    have hkl : k ≤ B.length := by omega
    have hR : getO B (k : Int) = Rp.replyD 8 (B.drop k) := by unfold getO; rw [if_neg hbad, Int.toNat_natCast]
    rw [hR]
    have hc := reply_ref B hl 8 (by decide) k hkl w1
    rw [show ((8 : Nat) : Int) = 8 from rfl] at hc
    have h1 : ¬ (k : Int) < 0 := by omega
    have h2 : ¬ (B.length : Int) < (k : Int) := by omega
    generalize Rp.replyD 8 (B.drop k) = o at hc ⊢
    have HC := Lib.hid hc
    clear hR hc hbad
    go_enter Tryz.func16, Tryz.ntmps16
    go_upto_region 1 with (fail)
    rw [show w.alloc (.cells #[.int .i64 0, .string ⟨#[]⟩, .int .i64 0, .slice none 0 0, .int .i64 0, .int .i64 0] 51) = w1 from HW1.out]
    clear HW1
    go_wp2_with fail
    refine HC.out.mono ?_
    cases o with
    | err c =>
      rintro e wb ⟨hbb, hc0, rfl⟩
      unfold badV
      have HZb := Lib.hid (HZ.out.later hbb)
      have HBb := Lib.hid (HB.out.trans (hbb.mono HB.out.size))
      obtain ⟨z0, z1, z2, z3, z4, z5⟩ := HZb.out.cells
      obtain ⟨f0, f1, f2, f3, f4, f5⟩ := HZb.out.cells'
      clear hbb
      go_wp2
      have hs := HZb.out.set (.int .i64 0) (.string ⟨#[]⟩) (.int .i64 0) (.slice none 0 0) (.int .i64 0) (.int .i64 c)
      have hb := set6_below HBb.out (b := w.heap.size) (by omega) (.int .i64 0) (.string ⟨#[]⟩) (.int .i64 0) (.slice none 0 0) (.int .i64 0) (.int .i64 c)
      show bodyPost _ _ _ .ret _ (set6 wb (w.heap.size) (.int .i64 0) (.string ⟨#[]⟩) (.int .i64 0) (.slice none 0 0) (.int .i64 0) (.int .i64 c))
      generalize set6 wb (w.heap.size) (.int .i64 0) (.string ⟨#[]⟩) (.int .i64 0) (.slice none 0 0) (.int .i64 0) (.int .i64 c) = wend at hs hb
      exact bodyPost_ret (results_cell rfl rfl (loadRd hs)) rfl ⟨hb, hc0, rfl⟩
    | ok r t =>
      rintro e wb ⟨hbb, a, cap, rfl, hrep⟩
      have HZb := Lib.hid (HZ.out.later hbb)
      have HBb := Lib.hid (HB.out.trans (hbb.mono HB.out.size))
      obtain ⟨z0, z1, z2, z3, z4, z5⟩ := HZb.out.cells
      obtain ⟨f0, f1, f2, f3, f4, f5⟩ := HZb.out.cells'
      have HREP := Lib.hid hrep
      have hs1w : w.heap.size < w1.heap.size := by omega
      clear hbb hrep
      go_wp2
      have hrep2 : Rep (fun k => w.heap.size ≤ k) (set6 wb w.heap.size (.int .i64 r.k) (.string ⟨r.s.toArray⟩) (.int .i64 r.n) (.slice a r.l.length cap) (.int .i64 ((B.length : Int) - (t.length : Int))) (.int .i64 0)) r (rv r.k r.s r.n a r.l.length cap) :=
        Rep.keeps (S := fun k => w1.heap.size ≤ k) (((((((Keeps.refl _ wb).setCell (p := ⟨w.heap.size, 0, none⟩) (.inr (by simp only; omega)) _).setCell (p := ⟨w.heap.size, 1, none⟩) (.inr (by simp only; omega)) _).setCell (p := ⟨w.heap.size, 2, none⟩) (.inr (by simp only; omega)) _).setCell (p := ⟨w.heap.size, 3, none⟩) (.inr (by simp only; omega)) _).setCell (p := ⟨w.heap.size, 4, none⟩) (.inr (by simp only; omega)) _).setCell (p := ⟨w.heap.size, 5, none⟩) (.inr (by simp only; omega)) _) (fun k h _ => by omega) _ _ HREP.out
      have hs := HZb.out.set (.int .i64 r.k) (.string ⟨r.s.toArray⟩) (.int .i64 r.n) (.slice a r.l.length cap) (.int .i64 ((B.length : Int) - (t.length : Int))) (.int .i64 0)
      have hb := set6_below HBb.out (b := w.heap.size) (by omega) (.int .i64 r.k) (.string ⟨r.s.toArray⟩) (.int .i64 r.n) (.slice a r.l.length cap) (.int .i64 ((B.length : Int) - (t.length : Int))) (.int .i64 0)
      show bodyPost _ _ _ .ret _ (set6 wb (w.heap.size) (.int .i64 r.k) (.string ⟨r.s.toArray⟩) (.int .i64 r.n) (.slice a r.l.length cap) (.int .i64 ((B.length : Int) - (t.length : Int))) (.int .i64 0))
      generalize set6 wb (w.heap.size) (.int .i64 r.k) (.string ⟨r.s.toArray⟩) (.int .i64 r.n) (.slice a r.l.length cap) (.int .i64 ((B.length : Int) - (t.length : Int))) (.int .i64 0) = wend at hs hb hrep2
      exact bodyPost_ret (results_cell rfl rfl (loadRd hs)) rfl ⟨hb, a, cap, rfl, hrep2⟩

/-- what both tell. -/
theorem get_both (B : List UInt8) (at_ : Int) (hl : B.length ≤ 3000) (a0 : -9223372036854775808 ≤ at_) (a1 : at_ ≤ 9223372036854775807) :
    ∃ (r : Rp.R) (nx ec : Int),
      (∀ w a cap, Bt (fun i => i < w.heap.size) w a cap B → Env w → Calls Tryz.prog 14 #[.slice a B.length cap, .int .i64 at_] w fun e W => ∃ a c, e = .returned (.tuple #[.agg #[.int .i64 r.k, .string ⟨r.s.toArray⟩, .int .i64 r.n, .slice a r.l.length c], .int .i64 nx, .int .i64 ec]) ∧ RepA W r (rv r.k r.s r.n a r.l.length c) ∧ Below w.heap.size w W) ∧
      (∀ w, Calls Tryz.prog 16 #[.string ⟨B.toArray⟩, .int .i64 at_] w fun e W => ∃ a c, e = .returned (.agg #[.int .i64 r.k, .string ⟨r.s.toArray⟩, .int .i64 r.n, .slice a r.l.length c, .int .i64 nx, .int .i64 ec]) ∧ RepA W r (rv r.k r.s r.n a r.l.length c) ∧ Below w.heap.size w W) := by
  have h1 := fun w a cap hb he => get_any B at_ a cap w (by omega) a0 a1 hb he
  have h2 := fun w => getReply_any B at_ w hl a0 a1
  generalize getO B at_ = o at h1 h2
  cases o with
  | ok r t =>
    refine ⟨r, (B.length : Int) - (t.length : Int), 0, fun w a cap hb he => (h1 w a cap hb he).mono ?_, fun w => (h2 w).mono ?_⟩
    · rintro e W ⟨hbw, k, s, m, a, l, c, rfl, hrep⟩
      obtain ⟨a', c', hv, -, -⟩ := hrep.parts
      have hv2 := hv
      unfold rv at hv2
      simp only [Value.agg.injEq, Array.mk.injEq, List.cons.injEq, and_true, Value.int.injEq, true_and, Value.string.injEq, Value.slice.injEq] at hv2
      obtain ⟨rfl, rfl, rfl, rfl, rfl, rfl⟩ := hv2
      exact ⟨a, c, rfl, by rw [hv] at hrep; exact hrep.mono fun _ _ _ => trivial, hbw⟩
    · rintro e W ⟨hbw, a, c, rfl, hrep⟩
      exact ⟨a, c, rfl, hrep.mono fun _ _ _ => trivial, hbw⟩
  | err c =>
    have hz : ∀ W, RepA W (.mk 0 [] 0 []) (rv 0 [] 0 none 0 0) := fun W => rep_plain (by unfold Fit; simp)
    refine ⟨.mk 0 [] 0 [], 0, c, fun w a cap hb he => (h1 w a cap hb he).mono ?_, fun w => (h2 w).mono ?_⟩
    · rintro e W ⟨hbw, -, rfl⟩
      exact ⟨none, 0, rfl, hz W, hbw⟩
    · rintro e W ⟨hbw, -, rfl⟩
      exact ⟨none, 0, rfl, hz W, hbw⟩

/-- the boxes' cells, from world to world. -/
def BxS (w0 : World) (X Y : Nat) (x0 x1 x2 x3 y0 y1 y2 y3 y4 y5 : Value) (W : World) : Prop :=
  W.cell? ⟨X, 0, none⟩ = some x0 ∧ W.cell? ⟨X, 1, none⟩ = some x1 ∧ W.cell? ⟨X, 2, none⟩ = some x2 ∧ W.cell? ⟨X, 3, none⟩ = some x3 ∧
  W.cell? ⟨Y, 0, none⟩ = some y0 ∧ W.cell? ⟨Y, 1, none⟩ = some y1 ∧ W.cell? ⟨Y, 2, none⟩ = some y2 ∧ W.cell? ⟨Y, 3, none⟩ = some y3 ∧ W.cell? ⟨Y, 4, none⟩ = some y4 ∧ W.cell? ⟨Y, 5, none⟩ = some y5 ∧ Below w0.heap.size w0 W
theorem bxS_next {w0 W W' : World} {X Y : Nat} {x0 x1 x2 x3 y0 y1 y2 y3 y4 y5 : Value} (h : BxS w0 X Y x0 x1 x2 x3 y0 y1 y2 y3 y4 y5 W) (hb : Below W.heap.size W W') : BxS w0 X Y x0 x1 x2 x3 y0 y1 y2 y3 y4 y5 W' := by
  obtain ⟨h0, h1, h2, h3, h4, h5, h6, h7, h8, h9, hB⟩ := h
  have step : ∀ {p : Addr} {v : Value}, W.cell? p = some v → W'.cell? p = some v := fun h => (hb.cell (World.block_lt_of_cell? W _ h)).trans h
  exact ⟨step h0, step h1, step h2, step h3, step h4, step h5, step h6, step h7, step h8, step h9, hB.trans (hb.mono hB.size)⟩

end Go.Proofs.YtbkhnnjjpelfcaaGreatDoor
