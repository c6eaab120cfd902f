/- The contract of the reference's marks: where one of two lists of spans may begin, or end, to say slots. -/
import Derived.Test.YtahmddopbmjepaaDoorRD26
namespace Go.Proofs.YtahmddopbmjepaaDoor
open Go.RowKit

theorem Ints.some {w : World} {a : Option Addr} {cap : Nat} {l : List Int} (h : Ints w a cap l) (h0 : l ≠ []) :
    ∃ b off, a = some ⟨b, off, none⟩ ∧ b < w.heap.size ∧ l.length ≤ cap ∧ (∀ x ∈ l, -9223372036854775808 ≤ x ∧ x ≤ 9223372036854775807) ∧ ∀ k, k < l.length → w.cell? ⟨b, off + k, none⟩ = some (.int .i64 (l.getD k 0)) := by
  obtain ⟨h1, h2, h3⟩ := h
  rcases h3 with h3 | ⟨b, off, ha, hb, hc⟩
  · exact absurd h3 h0
  · exact ⟨b, off, ha, hb, h1, h2, hc⟩

/-- Mark on what is told of a slice of ints. -/
theorem refMark_ints (a : Option Addr) (cap : Nat) (l : List Int) (n : Int) (w : World) (hl : l.length ≤ 1000000) (h : Ints w a cap l) (hs : l.Pairwise (· < ·)) (h0 : l ≠ []) :
    Calls Tryd.prog 42 #[.slice a l.length cap, .int .i64 n] w (Marked l n w) := by
  obtain ⟨b, off, rfl, hb, hcap, hr, hc⟩ := h.some h0
  exact refMark_any b off cap l n w hl hcap hr hb hc hs h0

/-- the cells of a span in a slice. -/
theorem Spans.cells {w : World} {a : Option Addr} {cap : Nat} {l : List Sp.S} (h : Spans w a cap l) {k : Nat} (hk : k < l.length) :
    ∃ b off, a = some ⟨b, off, none⟩ ∧ b < w.heap.size ∧ w.cell? ⟨b, off + k * 2, none⟩ = some (.int .i64 (l.getD k (0, 0)).1) ∧ w.cell? ⟨b, off + k * 2 + 1, none⟩ = some (.int .i64 (l.getD k (0, 0)).2) := by
  obtain ⟨_, _, _, h3⟩ := h
  rcases h3 with rfl | ⟨b, off, ha, hb, hc⟩
  · simp at hk
  · exact ⟨b, off, ha, hb, hc k hk⟩

theorem Spans.range {w : World} {a : Option Addr} {cap : Nat} {l : List Sp.S} (h : Spans w a cap l) {k : Nat} (hk : k < l.length) :
    -9223372036854775808 ≤ (l.getD k (0, 0)).1 ∧ (l.getD k (0, 0)).1 ≤ 9223372036854775807 ∧ -9223372036854775808 ≤ (l.getD k (0, 0)).2 ∧ (l.getD k (0, 0)).2 ≤ 9223372036854775807 := by
  have e : l.getD k (0, 0) = l[k] := by simp [List.getD, hk]
  rw [e]
  exact h.2.2.1 _ (List.getElem_mem hk)

theorem mark_ne {m : List Int} (n : Int) (h : m ≠ []) : Sp.mark m n ≠ [] := by
  intro h2
  cases m with
  | nil => exact h rfl
  | cons x r =>
    have : x ∈ Sp.mark (x :: r) n := Sp.mark_mem.2 (.inr (by simp))
    rw [h2] at this
    simp at this

def MarksOf (l : List Sp.S) (w : World) (e : Ending) (w' : World) : Prop :=
  ∃ a cap, e = .returned (.slice a (Sp.marksS l).length cap) ∧ Ints w' a cap (Sp.marksS l) ∧ Below w.heap.size w w'

set_option maxRecDepth 100000 in
set_option maxHeartbeats 2000000 in
theorem refMarks_any (a1 a2 : Option Addr) (cap1 cap2 : Nat) (l1 l2 : List Sp.S) (w : World) (hn : l1.length + l2.length ≤ 100000) (h1 : Spans w a1 cap1 l1) (h2 : Spans w a2 cap2 l2) :
    Calls Tryd.prog 67 #[.slice a1 l1.length cap1, .slice a2 l2.length cap2] w (MarksOf (l1 ++ l2) w) := by
  have H1 := Lib.hid h1
  have H2 := Lib.hid h2
  clear h1 h2
  go_enter Tryd.func67, Tryd.ntmps67
  go_wp2
  go_loopw [5, 6] (fun m i wr => ∃ (k : Nat) (am : Option Addr) (cm : Nat), k ≤ l1.length + l2.length ∧ i = .int .i64 k ∧ m = .slice am (Sp.marksS ((l1 ++ l2).take k)).length cm ∧ Hid (Ints wr am cm (Sp.marksS ((l1 ++ l2).take k))) ∧ Hid (Below w.heap.size w wr)) (fun _ i _ => l1.length + l2.length - (intOf i).toNat)
  case atStart =>
    refine ⟨0, some ⟨w.heap.size, 0, none⟩, 2, Nat.zero_le _, rfl, rfl, Lib.hid ?_, Lib.hid ((Below.refl _ _).alloc (Nat.le_refl _) _)⟩
    refine ⟨by simp [Sp.marksS], fun x hx => by simp [Sp.marksS] at hx; omega, .inr ⟨w.heap.size, 0, rfl, by simp, ?_⟩⟩
    intro k hk
    rw [Nat.zero_add, World.cell?_alloc_new]
    simp [Sp.marksS] at hk
    match k, hk with
    | 0, _ => rfl
    | 1, _ => rfl
  case round =>
    obtain ⟨k, am, cm, hk, rfl, rfl, HI, HB⟩ := hrel
    have hml := Sp.marksS_len ((l1 ++ l2).take k)
    have hml2 : ((l1 ++ l2).take k).length ≤ k := List.length_take_le _ _
    have HML : Hid ((Sp.marksS ((l1 ++ l2).take k)).length ≤ 300000) := Lib.hid (by omega)
    clear hml hml2
    have HMS := Lib.hid (Sp.marksS_sorted ((l1 ++ l2).take k))
    have HMN := Lib.hid (Sp.marksS_ne ((l1 ++ l2).take k))
    by_cases hlt : k < l1.length + l2.length
    · by_cases h : k < l1.length
      · have hsp := (H1.out.later HB.out)
        obtain ⟨b, off, hab, hbl, c1, c2⟩ := hsp.cells h
        have hrg := hsp.range h
        have hge : (l1 ++ l2).getD k (0, 0) = l1.getD k (0, 0) := by simp [List.getD, List.getElem?_append_left h]
        have hsn := Sp.marksS_snoc (l := l1 ++ l2) (k := k) (by simp; omega)
        rw [hge] at hsn
        generalize l1.getD k (0, 0) = s at c1 c2 hrg hsn
        obtain ⟨x, y⟩ := s
        simp only at c1 c2 hrg
        obtain ⟨r1, r2, r3, r4⟩ := hrg
        have HSN := Lib.hid hsn
        have HMX := Lib.hid (mark_ne x HMN.out)
        subst hab
        clear hge hsn hsp
        by_cases hxy : x ≤ y
        · go_wp2_with fail
          have hB1 : Below w.heap.size w (wr.alloc (.cells #[.int .i64 x, .int .i64 y] 58)) := HB.out.alloc HB.out.size _
          have hI1 : Ints (wr.alloc (.cells #[.int .i64 x, .int .i64 y] 58)) am cm (Sp.marksS ((l1 ++ l2).take k)) := HI.out.later ((Below.refl _ _).alloc (Nat.le_refl _) _)
          have hx0 : (wr.alloc (.cells #[.int .i64 x, .int .i64 y] 58)).cell? ⟨wr.heap.size, 0, none⟩ = some (.int .i64 x) := by rw [World.cell?_alloc_new]; rfl
          have hx1 : (wr.alloc (.cells #[.int .i64 x, .int .i64 y] 58)).cell? ⟨wr.heap.size, 1, none⟩ = some (.int .i64 y) := by rw [World.cell?_alloc_new]; rfl
          have hsz : wr.heap.size < (wr.alloc (.cells #[.int .i64 x, .int .i64 y] 58)).heap.size := by simp
          generalize wr.alloc (.cells #[.int .i64 x, .int .i64 y] 58) = wa at *
          have HX0 := Lib.hid hx0
          have HX1 := Lib.hid hx1
          have HBA := Lib.hid hB1
          have HIA := Lib.hid hI1
          clear hx0 hx1 hB1 hI1
          generalize Sp.marksS ((l1 ++ l2).take k) = m at *
          refine (refMark_ints am cm m x _ (by have := HML.out; omega) HIA.out HMS.out HMN.out).mono ?_
          rintro e w1 ⟨am1, cm1, rfl, hI, hb⟩
          have hy0 : w1.cell? ⟨wr.heap.size, 0, none⟩ = some (.int .i64 x) := (hb.cell (p := ⟨wr.heap.size, 0, none⟩) hsz).trans HX0.out
          have hy1 : w1.cell? ⟨wr.heap.size, 1, none⟩ = some (.int .i64 y) := (hb.cell (p := ⟨wr.heap.size, 1, none⟩) hsz).trans HX1.out
          have HB1 := Lib.hid (HBA.out.trans (hb.mono HBA.out.size))
          have HI1 := Lib.hid hI
          clear hI hb
          by_cases hy : y < 16384
          · have hst : Sp.stepM m (x, y) = Sp.mark (Sp.mark m x) (y + 1) := by unfold Sp.stepM; rw [if_pos hxy, if_pos hy]
            have HST := Lib.hid (HSN.out.trans hst)
            clear hst
            go_wp2_with fail
            refine (refMark_ints am1 cm1 (Sp.mark m x) (y + 1) _ (by have := HML.out; have := Sp.mark_len m x; omega) HI1.out (Sp.mark_sorted HMS.out) HMX.out).mono ?_
            rintro e w2 ⟨am2, cm2, rfl, hI, hb⟩
            have HB2 := Lib.hid (HB1.out.trans (hb.mono HB1.out.size))
            have HI2 := Lib.hid hI
            clear hI hb hy0 hy1
            go_wp2
            go_roundw
            case rel => exact ⟨k + 1, am2, cm2, by omega, by go_num, by rw [HST.out], by rw [HST.out]; exact HI2, HB2⟩
            case measure => simp [intOf]; omega
          · have hst : Sp.stepM m (x, y) = Sp.mark m x := by unfold Sp.stepM; rw [if_pos hxy, if_neg hy]
            have HST := Lib.hid (HSN.out.trans hst)
            clear hst
            go_wp2
            go_roundw
            case rel => exact ⟨k + 1, am1, cm1, by omega, by go_num, by rw [HST.out], by rw [HST.out]; exact HI1, HB1⟩
            case measure => simp [intOf]; omega
        · have hst : Sp.stepM (Sp.marksS ((l1 ++ l2).take k)) (x, y) = Sp.marksS ((l1 ++ l2).take k) := by unfold Sp.stepM; rw [if_neg hxy]
          have HST := Lib.hid (HSN.out.trans hst)
          clear hst
          go_wp2
          go_roundw
          case rel => exact ⟨k + 1, am, cm, by omega, by go_num, by rw [HST.out], by rw [HST.out]; exact Lib.hid (HI.out.later ((Below.refl _ _).alloc (Nat.le_refl _) _)), Lib.hid (HB.out.alloc HB.out.size _)⟩
          case measure => simp [intOf]; omega
      · have hk2 : k - l1.length < l2.length := by omega
        have hsp := (H2.out.later HB.out)
        obtain ⟨b, off, hab, hbl, c1, c2⟩ := hsp.cells hk2
        have hrg := hsp.range hk2
        have hge : (l1 ++ l2).getD k (0, 0) = l2.getD (k - l1.length) (0, 0) := by simp [List.getD, List.getElem?_append_right (Nat.le_of_not_lt h)]
        have hsn := Sp.marksS_snoc (l := l1 ++ l2) (k := k) (by simp; omega)
        rw [hge] at hsn
        generalize l2.getD (k - l1.length) (0, 0) = s at c1 c2 hrg hsn
        obtain ⟨x, y⟩ := s
        simp only at c1 c2 hrg
        obtain ⟨r1, r2, r3, r4⟩ := hrg
        have HSN := Lib.hid hsn
        have HMX := Lib.hid (mark_ne x HMN.out)
        subst hab
        clear hge hsn hsp
        by_cases hxy : x ≤ y
        · go_wp2_with fail
          have hB1 : Below w.heap.size w (wr.alloc (.cells #[.int .i64 x, .int .i64 y] 58)) := HB.out.alloc HB.out.size _
          have hI1 : Ints (wr.alloc (.cells #[.int .i64 x, .int .i64 y] 58)) am cm (Sp.marksS ((l1 ++ l2).take k)) := HI.out.later ((Below.refl _ _).alloc (Nat.le_refl _) _)
          have hx0 : (wr.alloc (.cells #[.int .i64 x, .int .i64 y] 58)).cell? ⟨wr.heap.size, 0, none⟩ = some (.int .i64 x) := by rw [World.cell?_alloc_new]; rfl
          have hx1 : (wr.alloc (.cells #[.int .i64 x, .int .i64 y] 58)).cell? ⟨wr.heap.size, 1, none⟩ = some (.int .i64 y) := by rw [World.cell?_alloc_new]; rfl
          have hsz : wr.heap.size < (wr.alloc (.cells #[.int .i64 x, .int .i64 y] 58)).heap.size := by simp
          generalize wr.alloc (.cells #[.int .i64 x, .int .i64 y] 58) = wa at *
          have HX0 := Lib.hid hx0
          have HX1 := Lib.hid hx1
          have HBA := Lib.hid hB1
          have HIA := Lib.hid hI1
          clear hx0 hx1 hB1 hI1
          generalize Sp.marksS ((l1 ++ l2).take k) = m at *
          refine (refMark_ints am cm m x _ (by have := HML.out; omega) HIA.out HMS.out HMN.out).mono ?_
          rintro e w1 ⟨am1, cm1, rfl, hI, hb⟩
          have hy0 : w1.cell? ⟨wr.heap.size, 0, none⟩ = some (.int .i64 x) := (hb.cell (p := ⟨wr.heap.size, 0, none⟩) hsz).trans HX0.out
          have hy1 : w1.cell? ⟨wr.heap.size, 1, none⟩ = some (.int .i64 y) := (hb.cell (p := ⟨wr.heap.size, 1, none⟩) hsz).trans HX1.out
          have HB1 := Lib.hid (HBA.out.trans (hb.mono HBA.out.size))
          have HI1 := Lib.hid hI
          clear hI hb
          by_cases hy : y < 16384
          · have hst : Sp.stepM m (x, y) = Sp.mark (Sp.mark m x) (y + 1) := by unfold Sp.stepM; rw [if_pos hxy, if_pos hy]
            have HST := Lib.hid (HSN.out.trans hst)
            clear hst
            go_wp2_with fail
            refine (refMark_ints am1 cm1 (Sp.mark m x) (y + 1) _ (by have := HML.out; have := Sp.mark_len m x; omega) HI1.out (Sp.mark_sorted HMS.out) HMX.out).mono ?_
            rintro e w2 ⟨am2, cm2, rfl, hI, hb⟩
            have HB2 := Lib.hid (HB1.out.trans (hb.mono HB1.out.size))
            have HI2 := Lib.hid hI
            clear hI hb hy0 hy1
            go_wp2
            go_roundw
            case rel => exact ⟨k + 1, am2, cm2, by omega, by go_num, by rw [HST.out], by rw [HST.out]; exact HI2, HB2⟩
            case measure => simp [intOf]; omega
          · have hst : Sp.stepM m (x, y) = Sp.mark m x := by unfold Sp.stepM; rw [if_pos hxy, if_neg hy]
            have HST := Lib.hid (HSN.out.trans hst)
            clear hst
            go_wp2
            go_roundw
            case rel => exact ⟨k + 1, am1, cm1, by omega, by go_num, by rw [HST.out], by rw [HST.out]; exact HI1, HB1⟩
            case measure => simp [intOf]; omega
        · have hst : Sp.stepM (Sp.marksS ((l1 ++ l2).take k)) (x, y) = Sp.marksS ((l1 ++ l2).take k) := by unfold Sp.stepM; rw [if_neg hxy]
          have HST := Lib.hid (HSN.out.trans hst)
          clear hst
          go_wp2
          go_roundw
          case rel => exact ⟨k + 1, am, cm, by omega, by go_num, by rw [HST.out], by rw [HST.out]; exact Lib.hid (HI.out.later ((Below.refl _ _).alloc (Nat.le_refl _) _)), Lib.hid (HB.out.alloc HB.out.size _)⟩
          case measure => simp [intOf]; omega
    · have hall : (l1 ++ l2).take k = l1 ++ l2 := List.take_of_length_le (by simp; omega)
      rw [hall] at HI ⊢
      clear hall HML HMS HMN
      go_wp2
      go_ret
      exact ⟨_, _, rfl, HI.out, HB.out⟩
end Go.Proofs.YtahmddopbmjepaaDoor
