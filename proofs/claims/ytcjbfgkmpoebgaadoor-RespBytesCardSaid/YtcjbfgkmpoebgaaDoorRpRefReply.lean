/- The contract of the reference's reply, and of GetReply. -/
import Derived.Test.YtcjbfgkmpoebgaaDoorRpRefArr
namespace Go.Proofs.YtcjbfgkmpoebgaaDoor
open Go.RowKit Go.Shelf
attribute [local go_sem] Oper.semAt_some
set_option linter.unusedVariables false
set_option linter.unusedSimpArgs false

theorem line_form (B : List UInt8) (at_ : Nat) (kind : Int) (hl : B.length ≤ 1000) (hi : at_ ≤ B.length) :
    ∃ (kk : Int) (ss : ByteArray) (nn nx ex : Int), RdL B.length ((Rp.lineP (B.drop at_)).map fun s => Rp.R.mk kind s 0 []) kk ss nn nx ex ∧
      ∀ w, Calls Tryd.prog 42 #[.string ⟨B.toArray⟩, .int .i64 (at_ : Int), .int .i64 kind] w fun e W => e = .returned (.agg #[.int .i64 kk, .string ss, .int .i64 nn, .slice none 0 0, .int .i64 nx, .int .i64 ex]) ∧ Below w.heap.size w W := by
  have hc := fun w => line_ref B at_ kind w hl hi
  have h0 : Rp.lineP (B.drop at_) ≠ .err 0 := by
    unfold Rp.lineP
    simp only
    split
    · simp
    · exact endP_err0
  unfold LineOut at hc
  generalize Rp.lineP (B.drop at_) = o at hc h0
  cases o with
  | ok s t => exact ⟨kind, ⟨s.toArray⟩, 0, (B.length : Int) - (t.length : Int), 0, ⟨rfl, rfl, rfl, rfl, rfl, rfl⟩, hc⟩
  | err c =>
    refine ⟨0, ⟨#[]⟩, 0, 0, c, ⟨fun h => h0 (by rw [h]), rfl, rfl, rfl, rfl, rfl⟩, fun w => (hc w).mono ?_⟩
    rintro e W ⟨⟨-, h⟩, hb⟩
    exact ⟨h, hb⟩

theorem rdr_of {n : Nat} {w W : World} {o : Rp.Out Rp.R} {kk : Int} {ss : ByteArray} {nn nx ex : Int} (h : RdL n o kk ss nn nx ex) (hb : Below w.heap.size w W) (hf : ∀ r t, o = .ok r t → Fit r.k r.s r.n 0 0) :
    RdR n w o (.returned (.agg #[.int .i64 kk, .string ss, .int .i64 nn, .slice none 0 0, .int .i64 nx, .int .i64 ex])) W := by
  refine ⟨hb, ?_⟩
  cases o with
  | ok r t =>
    obtain ⟨h1, rfl, rfl, rfl, rfl, rfl⟩ := h
    obtain ⟨k, s, m, l⟩ := r
    simp only [Rp.R.l] at h1
    subst h1
    exact ⟨none, 0, rfl, rep_plain (hf _ _ rfl)⟩
  | err c =>
    obtain ⟨h0, rfl, rfl, rfl, rfl, rfl⟩ := h
    exact ⟨h0, rfl⟩

/-- what is told of any bytes' reply, by its mark. -/
def markR (d : Nat) (bs : List UInt8) : Rp.Out Rp.R := Rp.replyD d bs
theorem replyD_cons (d : Nat) (x : UInt8) (r : List UInt8) : Rp.replyD d (x :: r) =
    if x = 43 then (Rp.lineP r).map fun s => .mk 1 s 0 []
    else if x = 45 then (Rp.lineP r).map fun s => .mk 2 s 0 []
    else if x = 58 then (Rp.devP (-9223372036854775808) 9223372036854775807 r).map fun n => .mk 3 [] n []
    else if x = 36 then Rp.bulkD r
    else if x = 42 then (match d with | 0 => .err 5 | d + 1 => Rp.arrD (Rp.replyD d) r)
    else .err 5 := by
  cases d with
  | zero => rw [Rp.replyD]; rfl
  | succ d => rw [Rp.replyD]; rfl
theorem lineP_fit {bs s t : List UInt8} (h : Rp.lineP bs = .ok s t) : s.length ≤ 512 := by
  unfold Rp.lineP at h
  simp only at h
  split at h
  · cases h
  · have := (Rp.endP_inv h).1
    rw [this]; omega
theorem bulkD_fit {bs t : List UInt8} {r : Rp.R} (h : Rp.bulkD bs = .ok r t) (hl : bs.length ≤ 1000) : Fit r.k r.s r.n 0 0 := by
  unfold Rp.bulkD at h
  cases hd : Rp.devP (-1) 1048576 bs with
  | err c => rw [hd] at h; cases h
  | ok n u =>
    rw [hd] at h
    have hi := Rp.devP_inv hd
    change (if n < 0 then _ else _) = _ at h
    split at h
    · injection h with h1 h2
      rw [← h1]
      unfold Fit; simp [Rp.R.k, Rp.R.s, Rp.R.n]
    · cases ht : Rp.textP n.toNat u with
      | err c => rw [ht] at h; cases h
      | ok s v =>
        rw [ht] at h
        injection h with h1 h2
        rw [← h1]
        have hs := (Rp.textP_inv ht).2.2
        have := hi.2.2
        unfold Fit
        simp only [Rp.R.k, Rp.R.s, Rp.R.n]
        omega

/-- the array's reader at a depth. -/
def ArrAt (B : List UInt8) (d : Nat) : Prop := ∀ at_, at_ ≤ B.length → ∀ w, Calls Tryd.prog 45 #[.string ⟨B.toArray⟩, .int .i64 (at_ : Int), .int .i64 (d : Int)] w (RdR B.length w (match d with | 0 => .err 5 | d + 1 => Rp.arrD (Rp.replyD d) (B.drop at_)))

set_option maxRecDepth 100000 in
set_option maxHeartbeats 8000000 in
theorem reply_step (B : List UInt8) (d : Nat) (hl : B.length ≤ 1000) (hd : d ≤ 8) (hA : ArrAt B d) : ∀ at_, at_ ≤ B.length → ∀ w,
    Calls Tryd.prog 31 #[.string ⟨B.toArray⟩, .int .i64 (at_ : Int), .int .i64 (d : Int)] w (RdR B.length w (Rp.replyD d (B.drop at_))) := by
  intro at_ hi w
  have hlI : (B.length : Int) ≤ 1000 := by omega
  have a0 : (0 : Int) ≤ (at_ : Int) := by omega
  have aL : (at_ : Int) ≤ (B.length : Int) := by omega
  have wa1 : IntKind.i64.wrap ((at_ : Int) + 1) = (at_ : Int) + 1 := IntWalk.i64_in _ (by omega)
  by_cases h1 : at_ < B.length
  · have h1I : (at_ : Int) < (B.length : Int) := by omega
    have h1n : ¬ (B.length : Int) ≤ (at_ : Int) := by omega
    have hix := idx_at B at_ h1
    have hdr := drop_at h1
    obtain ⟨c0, hc⟩ : ∃ c0, B.getD at_ 0 = c0 := ⟨_, rfl⟩
    rw [hc] at hix hdr
    obtain ⟨y, hy⟩ : ∃ y : Int, (c0.toNat : Int) = y := ⟨_, rfl⟩
    rw [hy] at hix
    have hne : ∀ k : UInt8, c0 ≠ k → (y == (k.toNat : Int)) = false := fun k h => by rw [beq_eq_false_iff_ne]; intro e; exact h (UInt8.toNat_inj.1 (by omega))
    rw [hdr, replyD_cons]
    by_cases q43 : c0 = 43
    · have hyv : y = 43 := by rw [← hy, q43]; rfl
      subst hyv
      rw [if_pos q43]
      obtain ⟨kk, ss, nn, nx, ex, hrd, hcall⟩ := line_form B (at_ + 1) 1 hl h1
      have hfit : ∀ r t, ((Rp.lineP (B.drop (at_ + 1))).map fun s => Rp.R.mk 1 s 0 []) = .ok r t → Fit r.k r.s r.n 0 0 := fun r t h => by
        cases hL : Rp.lineP (B.drop (at_ + 1)) with
        | err c => rw [hL] at h; cases h
        | ok s u =>
          rw [hL] at h
          injection h with h1 h2
          have := lineP_fit hL
          rw [← h1]
          unfold Fit; simp only [Rp.R.k, Rp.R.s, Rp.R.n]; omega
      have HC := Lib.hid hcall
      rw [show ((at_ + 1 : Nat) : Int) = (at_ : Int) + 1 from rfl] at HC
      have HRD := Lib.hid hrd
      have HFT := Lib.hid hfit
      clear hdr hc hy hne hcall hrd hfit
      obtain ⟨w1, hw1⟩ : ∃ w1, w.alloc (.cells #[.int .i64 0, .string ⟨#[]⟩, .int .i64 0, .slice none 0 0, .int .i64 0, .int .i64 0] 36) = w1 := ⟨_, rfl⟩
      have hz : Rd6 w1 w.heap.size (.int .i64 0) (.string ⟨#[]⟩) (.int .i64 0) (.slice none 0 0) (.int .i64 0) (.int .i64 0) := by rw [← hw1]; exact Rd6.new w _ _ _ _ _ _
      have hb1 : Below w.heap.size w w1 := by rw [← hw1]; exact (Below.refl _ w).alloc (Nat.le_refl _) _
      have hsz : w1.heap.size = w.heap.size + 1 := by rw [← hw1]; simp
      have HW1 := Lib.hid hw1
      have HZ := Lib.hid hz
      have HB := Lib.hid hb1
      clear hw1 hz hb1
      go_enter Tryd.func31, Tryd.ntmps31
      go_upto_region 1 with (fail)
      rw [show w.alloc (.cells #[.int .i64 0, .string ⟨#[]⟩, .int .i64 0, .slice none 0 0, .int .i64 0, .int .i64 0] 36) = w1 from HW1.out]
      clear HW1
      go_wp2_with fail
      refine (HC.out w1).mono ?_
      rintro e wb ⟨rfl, hbb⟩
      have HZb := Lib.hid (HZ.out.later hbb)
      have HBb := Lib.hid (HB.out.trans (hbb.mono HB.out.size))
      obtain ⟨z0, z1, z2, z3, z4, z5⟩ := HZb.out.cells
      obtain ⟨f0, f1, f2, f3, f4, f5⟩ := HZb.out.cells'
      clear hbb
      go_wp2
      have hs := HZb.out.set (.int .i64 kk) (.string ss) (.int .i64 nn) (.slice none 0 0) (.int .i64 nx) (.int .i64 ex)
      have hb := set6_below HBb.out (b := w.heap.size) (by omega) (.int .i64 kk) (.string ss) (.int .i64 nn) (.slice none 0 0) (.int .i64 nx) (.int .i64 ex)
      show bodyPost _ _ _ .ret _ (set6 wb (w.heap.size) (.int .i64 kk) (.string ss) (.int .i64 nn) (.slice none 0 0) (.int .i64 nx) (.int .i64 ex))
      generalize set6 wb (w.heap.size) (.int .i64 kk) (.string ss) (.int .i64 nn) (.slice none 0 0) (.int .i64 nx) (.int .i64 ex) = wend at hs hb
      exact bodyPost_ret (results_cell rfl rfl (loadRd hs)) rfl (rdr_of HRD.out hb HFT.out)
    · have n43 : ¬ y = 43 := fun e => q43 (UInt8.toNat_inj.1 (by have : (43 : UInt8).toNat = 43 := rfl; omega))
      rw [if_neg q43]
      by_cases q45 : c0 = 45
      · have hyv : y = 45 := by rw [← hy, q45]; rfl
        subst hyv
        rw [if_pos q45]
        obtain ⟨kk, ss, nn, nx, ex, hrd, hcall⟩ := line_form B (at_ + 1) 2 hl h1
        have hfit : ∀ r t, ((Rp.lineP (B.drop (at_ + 1))).map fun s => Rp.R.mk 2 s 0 []) = .ok r t → Fit r.k r.s r.n 0 0 := fun r t h => by
          cases hL : Rp.lineP (B.drop (at_ + 1)) with
          | err c => rw [hL] at h; cases h
          | ok s u =>
            rw [hL] at h
            injection h with h1 h2
            have := lineP_fit hL
            rw [← h1]
            unfold Fit; simp only [Rp.R.k, Rp.R.s, Rp.R.n]; omega
        have HC := Lib.hid hcall
        rw [show ((at_ + 1 : Nat) : Int) = (at_ : Int) + 1 from rfl] at HC
        have HRD := Lib.hid hrd
        have HFT := Lib.hid hfit
        clear hdr hc hy hne hcall hrd hfit
        obtain ⟨w1, hw1⟩ : ∃ w1, w.alloc (.cells #[.int .i64 0, .string ⟨#[]⟩, .int .i64 0, .slice none 0 0, .int .i64 0, .int .i64 0] 36) = w1 := ⟨_, rfl⟩
        have hz : Rd6 w1 w.heap.size (.int .i64 0) (.string ⟨#[]⟩) (.int .i64 0) (.slice none 0 0) (.int .i64 0) (.int .i64 0) := by rw [← hw1]; exact Rd6.new w _ _ _ _ _ _
        have hb1 : Below w.heap.size w w1 := by rw [← hw1]; exact (Below.refl _ w).alloc (Nat.le_refl _) _
        have hsz : w1.heap.size = w.heap.size + 1 := by rw [← hw1]; simp
        have HW1 := Lib.hid hw1
        have HZ := Lib.hid hz
        have HB := Lib.hid hb1
        clear hw1 hz hb1
        go_enter Tryd.func31, Tryd.ntmps31
        go_upto_region 1 with (fail)
        rw [show w.alloc (.cells #[.int .i64 0, .string ⟨#[]⟩, .int .i64 0, .slice none 0 0, .int .i64 0, .int .i64 0] 36) = w1 from HW1.out]
        clear HW1
        go_wp2_with fail
        refine (HC.out w1).mono ?_
        rintro e wb ⟨rfl, hbb⟩
        have HZb := Lib.hid (HZ.out.later hbb)
        have HBb := Lib.hid (HB.out.trans (hbb.mono HB.out.size))
        obtain ⟨z0, z1, z2, z3, z4, z5⟩ := HZb.out.cells
        obtain ⟨f0, f1, f2, f3, f4, f5⟩ := HZb.out.cells'
        clear hbb
        go_wp2
        have hs := HZb.out.set (.int .i64 kk) (.string ss) (.int .i64 nn) (.slice none 0 0) (.int .i64 nx) (.int .i64 ex)
        have hb := set6_below HBb.out (b := w.heap.size) (by omega) (.int .i64 kk) (.string ss) (.int .i64 nn) (.slice none 0 0) (.int .i64 nx) (.int .i64 ex)
        show bodyPost _ _ _ .ret _ (set6 wb (w.heap.size) (.int .i64 kk) (.string ss) (.int .i64 nn) (.slice none 0 0) (.int .i64 nx) (.int .i64 ex))
        generalize set6 wb (w.heap.size) (.int .i64 kk) (.string ss) (.int .i64 nn) (.slice none 0 0) (.int .i64 nx) (.int .i64 ex) = wend at hs hb
        exact bodyPost_ret (results_cell rfl rfl (loadRd hs)) rfl (rdr_of HRD.out hb HFT.out)
      · have n45 : ¬ y = 45 := fun e => q45 (UInt8.toNat_inj.1 (by have : (45 : UInt8).toNat = 45 := rfl; omega))
        rw [if_neg q45]
        by_cases q58 : c0 = 58
        · have hyv : y = 58 := by rw [← hy, q58]; rfl
          subst hyv
          rw [if_pos q58, ← Rp.refN_all]
          obtain ⟨nn, nx, ex, hrd, hcall⟩ := number_form B (at_ + 1) true 9223372036854775807 hl h1 (by decide) (by decide)
          have HC := Lib.hid hcall
          rw [show ((at_ + 1 : Nat) : Int) = (at_ : Int) + 1 from rfl] at HC
          have hdv := Rp.refN_all (B.drop (at_ + 1))
          cases hR : Rp.refN true 9223372036854775807 (B.drop (at_ + 1)) with
          | err c =>
            rw [hR] at hrd
            obtain ⟨hc0, rfl, rfl, rfl⟩ := hrd
            have hcb : (ex == 0) = false := by simp [hc0]
            clear hdr hc hy hne hcall hR hdv
            obtain ⟨w1, hw1⟩ : ∃ w1, w.alloc (.cells #[.int .i64 0, .string ⟨#[]⟩, .int .i64 0, .slice none 0 0, .int .i64 0, .int .i64 0] 36) = w1 := ⟨_, rfl⟩
            have hz : Rd6 w1 w.heap.size (.int .i64 0) (.string ⟨#[]⟩) (.int .i64 0) (.slice none 0 0) (.int .i64 0) (.int .i64 0) := by rw [← hw1]; exact Rd6.new w _ _ _ _ _ _
            have hb1 : Below w.heap.size w w1 := by rw [← hw1]; exact (Below.refl _ w).alloc (Nat.le_refl _) _
            have hsz : w1.heap.size = w.heap.size + 1 := by rw [← hw1]; simp
            have HW1 := Lib.hid hw1
            have HZ := Lib.hid hz
            have HB := Lib.hid hb1
            clear hw1 hz hb1
            go_enter Tryd.func31, Tryd.ntmps31
            go_upto_region 1 with (fail)
            rw [show w.alloc (.cells #[.int .i64 0, .string ⟨#[]⟩, .int .i64 0, .slice none 0 0, .int .i64 0, .int .i64 0] 36) = w1 from HW1.out]
            clear HW1
            go_wp2_with fail
            refine (HC.out w1).mono ?_
            rintro e w2 ⟨rfl, hb2⟩
            go_upto_region 10 with (fail)
            obtain ⟨w3, hw3⟩ : ∃ w3, w2.alloc (.cells #[.int .i64 0, .string ⟨#[]⟩, .int .i64 0, .slice none 0 0, .int .i64 0, .int .i64 ex] 36) = w3 := ⟨_, rfl⟩
            have hyy := Rd6.new w2 (.int .i64 0) (.string ⟨#[]⟩) (.int .i64 0) (.slice none 0 0) (.int .i64 0) (.int .i64 ex)
            have hb3 : Below w2.heap.size w2 w3 := by rw [← hw3]; exact (Below.refl _ w2).alloc (Nat.le_refl _) _
            have hs3 : w3.heap.size = w2.heap.size + 1 := by rw [← hw3]; simp
            rw [hw3] at hyy ⊢
            obtain ⟨y0, y1, y2, y3, y4, y5⟩ := hyy.cells
            have HZ3 := Lib.hid ((HZ.out.later hb2).later hb3)
            have HB3 := Lib.hid ((HB.out.trans (hb2.mono HB.out.size)).trans (hb3.mono (HB.out.trans (hb2.mono HB.out.size)).size))
            have hz2 : w1.heap.size ≤ w2.heap.size := hb2.size
            clear hw3 hb2 hb3
            go_upto_region 12 with (fail)
            obtain ⟨z0, z1, z2, z3, z4, z5⟩ := HZ3.out.cells
            obtain ⟨f0, f1, f2, f3, f4, f5⟩ := HZ3.out.cells'
            clear hyy
            go_wp2
            have hs := HZ3.out.set (.int .i64 0) (.string ⟨#[]⟩) (.int .i64 0) (.slice none 0 0) (.int .i64 0) (.int .i64 ex)
            have hb := set6_below HB3.out (b := w.heap.size) (by omega) (.int .i64 0) (.string ⟨#[]⟩) (.int .i64 0) (.slice none 0 0) (.int .i64 0) (.int .i64 ex)
            show bodyPost _ _ _ .ret _ (set6 w3 (w.heap.size) (.int .i64 0) (.string ⟨#[]⟩) (.int .i64 0) (.slice none 0 0) (.int .i64 0) (.int .i64 ex))
            generalize set6 w3 (w.heap.size) (.int .i64 0) (.string ⟨#[]⟩) (.int .i64 0) (.slice none 0 0) (.int .i64 0) (.int .i64 ex) = wend at hs hb
            exact bodyPost_ret (results_cell rfl rfl (loadRd hs)) rfl ⟨hb, hc0, rfl⟩
          | ok v t =>
            rw [hR] at hrd hdv
            obtain ⟨hnv, hnx, rfl⟩ := hrd
            subst hnv
            have hdev := (Rp.devP_inv hdv.symm).2
            have hfit : Fit 3 [] nn 0 0 := by unfold Fit; simp only [List.length_nil]; omega
            subst hnx
            have HFT := Lib.hid hfit
            clear hdr hc hy hne hcall hR hdv hdev hfit
            obtain ⟨w1, hw1⟩ : ∃ w1, w.alloc (.cells #[.int .i64 0, .string ⟨#[]⟩, .int .i64 0, .slice none 0 0, .int .i64 0, .int .i64 0] 36) = w1 := ⟨_, rfl⟩
            have hz : Rd6 w1 w.heap.size (.int .i64 0) (.string ⟨#[]⟩) (.int .i64 0) (.slice none 0 0) (.int .i64 0) (.int .i64 0) := by rw [← hw1]; exact Rd6.new w _ _ _ _ _ _
            have hb1 : Below w.heap.size w w1 := by rw [← hw1]; exact (Below.refl _ w).alloc (Nat.le_refl _) _
            have hsz : w1.heap.size = w.heap.size + 1 := by rw [← hw1]; simp
            have HW1 := Lib.hid hw1
            have HZ := Lib.hid hz
            have HB := Lib.hid hb1
            clear hw1 hz hb1
            go_enter Tryd.func31, Tryd.ntmps31
            go_upto_region 1 with (fail)
            rw [show w.alloc (.cells #[.int .i64 0, .string ⟨#[]⟩, .int .i64 0, .slice none 0 0, .int .i64 0, .int .i64 0] 36) = w1 from HW1.out]
            clear HW1
            go_wp2_with fail
            refine (HC.out w1).mono ?_
            rintro e w2 ⟨rfl, hb2⟩
            go_upto_region 10 with (fail)
            obtain ⟨w3, hw3⟩ : ∃ w3, w2.alloc (.cells #[.int .i64 0, .string ⟨#[]⟩, .int .i64 nn, .slice none 0 0, .int .i64 ((B.length : Int) - (t.length : Int)), .int .i64 0] 36) = w3 := ⟨_, rfl⟩
            have hyy := Rd6.new w2 (.int .i64 0) (.string ⟨#[]⟩) (.int .i64 nn) (.slice none 0 0) (.int .i64 ((B.length : Int) - (t.length : Int))) (.int .i64 0)
            have hb3 : Below w2.heap.size w2 w3 := by rw [← hw3]; exact (Below.refl _ w2).alloc (Nat.le_refl _) _
            have hs3 : w3.heap.size = w2.heap.size + 1 := by rw [← hw3]; simp
            rw [hw3] at hyy ⊢
            obtain ⟨y0, y1, y2, y3, y4, y5⟩ := hyy.cells
            have HZ3 := Lib.hid ((HZ.out.later hb2).later hb3)
            have HB3 := Lib.hid ((HB.out.trans (hb2.mono HB.out.size)).trans (hb3.mono (HB.out.trans (hb2.mono HB.out.size)).size))
            have hz2 : w1.heap.size ≤ w2.heap.size := hb2.size
            clear hw3 hb2 hb3
            obtain ⟨g0, g1, g2, g3, g4, g5⟩ := hyy.cells'
            have HYY := Lib.hid hyy
            clear hyy
            go_upto_region 12 with (fail)
            obtain ⟨w5, hw5⟩ : ∃ w5, w3.setCell ⟨w2.heap.size, 0, none⟩ (.int .i64 3) = w5 := ⟨_, rfl⟩
            rw [hw5]
            have hy5 : Rd6 w5 w2.heap.size (.int .i64 3) (.string ⟨#[]⟩) (.int .i64 nn) (.slice none 0 0) (.int .i64 ((B.length : Int) - (t.length : Int))) (.int .i64 0) := by rw [← hw5]; exact HYY.out.set0 _
            have hz5 : Rd6 w5 w.heap.size (.int .i64 0) (.string ⟨#[]⟩) (.int .i64 0) (.slice none 0 0) (.int .i64 0) (.int .i64 0) := by rw [← hw5]; exact HZ3.out.other (by omega)
            have hb5 : Below w.heap.size w w5 := by rw [← hw5]; exact HB3.out.setCell (p := ⟨w2.heap.size, 0, none⟩) (by simp only; omega) _
            clear y0 y1 y2 y3 y4 y5 g0 g1 g2 g3 g4 g5 hw5
            obtain ⟨y0, y1, y2, y3, y4, y5⟩ := hy5.cells
            obtain ⟨z0, z1, z2, z3, z4, z5⟩ := hz5.cells
            obtain ⟨f0, f1, f2, f3, f4, f5⟩ := hz5.cells'
            have HZ5 := Lib.hid hz5
            have HB5 := Lib.hid hb5
            clear hy5 hz5 hb5
            go_wp2
            have hs := HZ5.out.set (.int .i64 3) (.string ⟨#[]⟩) (.int .i64 nn) (.slice none 0 0) (.int .i64 ((B.length : Int) - (t.length : Int))) (.int .i64 0)
            have hb := set6_below HB5.out (b := w.heap.size) (by omega) (.int .i64 3) (.string ⟨#[]⟩) (.int .i64 nn) (.slice none 0 0) (.int .i64 ((B.length : Int) - (t.length : Int))) (.int .i64 0)
            show bodyPost _ _ _ .ret _ (set6 w5 (w.heap.size) (.int .i64 3) (.string ⟨#[]⟩) (.int .i64 nn) (.slice none 0 0) (.int .i64 ((B.length : Int) - (t.length : Int))) (.int .i64 0))
            generalize set6 w5 (w.heap.size) (.int .i64 3) (.string ⟨#[]⟩) (.int .i64 nn) (.slice none 0 0) (.int .i64 ((B.length : Int) - (t.length : Int))) (.int .i64 0) = wend at hs hb
            exact bodyPost_ret (results_cell rfl rfl (loadRd hs)) rfl ⟨hb, none, 0, rfl, rep_plain HFT.out⟩
        · have n58 : ¬ y = 58 := fun e => q58 (UInt8.toNat_inj.1 (by have : (58 : UInt8).toNat = 58 := rfl; omega))
          rw [if_neg q58]
          by_cases q36 : c0 = 36
          · have hyv : y = 36 := by rw [← hy, q36]; rfl
            subst hyv
            rw [if_pos q36]
            obtain ⟨kk, ss, nn, nx, ex, hrd, hcall⟩ := bulk_ref B (at_ + 1) hl h1
            rw [Rp.bulkR_dev] at hrd
            have hfit : ∀ r t, Rp.bulkD (B.drop (at_ + 1)) = .ok r t → Fit r.k r.s r.n 0 0 := fun r t h => bulkD_fit h (by rw [List.length_drop]; omega)
            have HC := Lib.hid hcall
            rw [show ((at_ + 1 : Nat) : Int) = (at_ : Int) + 1 from rfl] at HC
            have HRD := Lib.hid hrd
            have HFT := Lib.hid hfit
            clear hdr hc hy hne hcall hrd hfit
            obtain ⟨w1, hw1⟩ : ∃ w1, w.alloc (.cells #[.int .i64 0, .string ⟨#[]⟩, .int .i64 0, .slice none 0 0, .int .i64 0, .int .i64 0] 36) = w1 := ⟨_, rfl⟩
            have hz : Rd6 w1 w.heap.size (.int .i64 0) (.string ⟨#[]⟩) (.int .i64 0) (.slice none 0 0) (.int .i64 0) (.int .i64 0) := by rw [← hw1]; exact Rd6.new w _ _ _ _ _ _
            have hb1 : Below w.heap.size w w1 := by rw [← hw1]; exact (Below.refl _ w).alloc (Nat.le_refl _) _
            have hsz : w1.heap.size = w.heap.size + 1 := by rw [← hw1]; simp
            have HW1 := Lib.hid hw1
            have HZ := Lib.hid hz
            have HB := Lib.hid hb1
            clear hw1 hz hb1
            go_enter Tryd.func31, Tryd.ntmps31
            go_upto_region 1 with (fail)
            rw [show w.alloc (.cells #[.int .i64 0, .string ⟨#[]⟩, .int .i64 0, .slice none 0 0, .int .i64 0, .int .i64 0] 36) = w1 from HW1.out]
            clear HW1
            go_wp2_with fail
            refine (HC.out w1).mono ?_
            rintro e wb ⟨rfl, hbb⟩
            have HZb := Lib.hid (HZ.out.later hbb)
            have HBb := Lib.hid (HB.out.trans (hbb.mono HB.out.size))
            obtain ⟨z0, z1, z2, z3, z4, z5⟩ := HZb.out.cells
            obtain ⟨f0, f1, f2, f3, f4, f5⟩ := HZb.out.cells'
            clear hbb
            go_wp2
            have hs := HZb.out.set (.int .i64 kk) (.string ss) (.int .i64 nn) (.slice none 0 0) (.int .i64 nx) (.int .i64 ex)
            have hb := set6_below HBb.out (b := w.heap.size) (by omega) (.int .i64 kk) (.string ss) (.int .i64 nn) (.slice none 0 0) (.int .i64 nx) (.int .i64 ex)
            show bodyPost _ _ _ .ret _ (set6 wb (w.heap.size) (.int .i64 kk) (.string ss) (.int .i64 nn) (.slice none 0 0) (.int .i64 nx) (.int .i64 ex))
            generalize set6 wb (w.heap.size) (.int .i64 kk) (.string ss) (.int .i64 nn) (.slice none 0 0) (.int .i64 nx) (.int .i64 ex) = wend at hs hb
            exact bodyPost_ret (results_cell rfl rfl (loadRd hs)) rfl (rdr_of HRD.out hb HFT.out)
          · have n36 : ¬ y = 36 := fun e => q36 (UInt8.toNat_inj.1 (by have : (36 : UInt8).toNat = 36 := rfl; omega))
            rw [if_neg q36]
            by_cases q42 : c0 = 42
            · have hyv : y = 42 := by rw [← hy, q42]; rfl
              subst hyv
              rw [if_pos q42]
              have hcall := fun w => hA (at_ + 1) h1 w
              generalize (match d with | 0 => Rp.Out.err 5 | d + 1 => Rp.arrD (Rp.replyD d) (B.drop (at_ + 1))) = o at hcall ⊢
              have HC := Lib.hid hcall
              rw [show ((at_ + 1 : Nat) : Int) = (at_ : Int) + 1 from rfl] at HC
              clear hdr hc hy hne hcall
              cases o with
              | err c =>
                obtain ⟨w1, hw1⟩ : ∃ w1, w.alloc (.cells #[.int .i64 0, .string ⟨#[]⟩, .int .i64 0, .slice none 0 0, .int .i64 0, .int .i64 0] 36) = w1 := ⟨_, rfl⟩
                have hz : Rd6 w1 w.heap.size (.int .i64 0) (.string ⟨#[]⟩) (.int .i64 0) (.slice none 0 0) (.int .i64 0) (.int .i64 0) := by rw [← hw1]; exact Rd6.new w _ _ _ _ _ _
                have hb1 : Below w.heap.size w w1 := by rw [← hw1]; exact (Below.refl _ w).alloc (Nat.le_refl _) _
                have hsz : w1.heap.size = w.heap.size + 1 := by rw [← hw1]; simp
                have HW1 := Lib.hid hw1
                have HZ := Lib.hid hz
                have HB := Lib.hid hb1
                clear hw1 hz hb1
                go_enter Tryd.func31, Tryd.ntmps31
                go_upto_region 1 with (fail)
                rw [show w.alloc (.cells #[.int .i64 0, .string ⟨#[]⟩, .int .i64 0, .slice none 0 0, .int .i64 0, .int .i64 0] 36) = w1 from HW1.out]
                clear HW1
                go_wp2_with fail
                refine (HC.out w1).mono ?_
                rintro e wb ⟨hbb, hc0, rfl⟩
                unfold badV
                have HZb := Lib.hid (HZ.out.later hbb)
                have HBb := Lib.hid (HB.out.trans (hbb.mono HB.out.size))
                obtain ⟨z0, z1, z2, z3, z4, z5⟩ := HZb.out.cells
                obtain ⟨f0, f1, f2, f3, f4, f5⟩ := HZb.out.cells'
                clear hbb
                go_wp2
                have hs := HZb.out.set (.int .i64 0) (.string ⟨#[]⟩) (.int .i64 0) (.slice none 0 0) (.int .i64 0) (.int .i64 c)
                have hb := set6_below HBb.out (b := w.heap.size) (by omega) (.int .i64 0) (.string ⟨#[]⟩) (.int .i64 0) (.slice none 0 0) (.int .i64 0) (.int .i64 c)
                show bodyPost _ _ _ .ret _ (set6 wb (w.heap.size) (.int .i64 0) (.string ⟨#[]⟩) (.int .i64 0) (.slice none 0 0) (.int .i64 0) (.int .i64 c))
                generalize set6 wb (w.heap.size) (.int .i64 0) (.string ⟨#[]⟩) (.int .i64 0) (.slice none 0 0) (.int .i64 0) (.int .i64 c) = wend at hs hb
                exact bodyPost_ret (results_cell rfl rfl (loadRd hs)) rfl ⟨hb, hc0, rfl⟩
              | ok r t =>
                obtain ⟨w1, hw1⟩ : ∃ w1, w.alloc (.cells #[.int .i64 0, .string ⟨#[]⟩, .int .i64 0, .slice none 0 0, .int .i64 0, .int .i64 0] 36) = w1 := ⟨_, rfl⟩
                have hz : Rd6 w1 w.heap.size (.int .i64 0) (.string ⟨#[]⟩) (.int .i64 0) (.slice none 0 0) (.int .i64 0) (.int .i64 0) := by rw [← hw1]; exact Rd6.new w _ _ _ _ _ _
                have hb1 : Below w.heap.size w w1 := by rw [← hw1]; exact (Below.refl _ w).alloc (Nat.le_refl _) _
                have hsz : w1.heap.size = w.heap.size + 1 := by rw [← hw1]; simp
                have HW1 := Lib.hid hw1
                have HZ := Lib.hid hz
                have HB := Lib.hid hb1
                clear hw1 hz hb1
                go_enter Tryd.func31, Tryd.ntmps31
                go_upto_region 1 with (fail)
                rw [show w.alloc (.cells #[.int .i64 0, .string ⟨#[]⟩, .int .i64 0, .slice none 0 0, .int .i64 0, .int .i64 0] 36) = w1 from HW1.out]
                clear HW1
                go_wp2_with fail
                refine (HC.out w1).mono ?_
                rintro e wb ⟨hbb, a, cap, rfl, hrep⟩
                have HZb := Lib.hid (HZ.out.later hbb)
                have HBb := Lib.hid (HB.out.trans (hbb.mono HB.out.size))
                obtain ⟨z0, z1, z2, z3, z4, z5⟩ := HZb.out.cells
                obtain ⟨f0, f1, f2, f3, f4, f5⟩ := HZb.out.cells'
                have HREP := Lib.hid hrep
                have hs1w : w.heap.size < w1.heap.size := by omega
                clear hbb hrep
                go_wp2
                have hrep2 : Rep (fun k => w.heap.size ≤ k) (set6 wb w.heap.size (.int .i64 r.k) (.string ⟨r.s.toArray⟩) (.int .i64 r.n) (.slice a r.l.length cap) (.int .i64 ((B.length : Int) - (t.length : Int))) (.int .i64 0)) r (rv r.k r.s r.n a r.l.length cap) :=
                  Rep.keeps (S := fun k => w1.heap.size ≤ k) (((((((Keeps.refl _ wb).setCell (p := ⟨w.heap.size, 0, none⟩) (.inr (by simp only; omega)) _).setCell (p := ⟨w.heap.size, 1, none⟩) (.inr (by simp only; omega)) _).setCell (p := ⟨w.heap.size, 2, none⟩) (.inr (by simp only; omega)) _).setCell (p := ⟨w.heap.size, 3, none⟩) (.inr (by simp only; omega)) _).setCell (p := ⟨w.heap.size, 4, none⟩) (.inr (by simp only; omega)) _).setCell (p := ⟨w.heap.size, 5, none⟩) (.inr (by simp only; omega)) _) (fun k h _ => by omega) _ _ HREP.out
                have hs := HZb.out.set (.int .i64 r.k) (.string ⟨r.s.toArray⟩) (.int .i64 r.n) (.slice a r.l.length cap) (.int .i64 ((B.length : Int) - (t.length : Int))) (.int .i64 0)
                have hb := set6_below HBb.out (b := w.heap.size) (by omega) (.int .i64 r.k) (.string ⟨r.s.toArray⟩) (.int .i64 r.n) (.slice a r.l.length cap) (.int .i64 ((B.length : Int) - (t.length : Int))) (.int .i64 0)
                show bodyPost _ _ _ .ret _ (set6 wb (w.heap.size) (.int .i64 r.k) (.string ⟨r.s.toArray⟩) (.int .i64 r.n) (.slice a r.l.length cap) (.int .i64 ((B.length : Int) - (t.length : Int))) (.int .i64 0))
                generalize set6 wb (w.heap.size) (.int .i64 r.k) (.string ⟨r.s.toArray⟩) (.int .i64 r.n) (.slice a r.l.length cap) (.int .i64 ((B.length : Int) - (t.length : Int))) (.int .i64 0) = wend at hs hb hrep2
                exact bodyPost_ret (results_cell rfl rfl (loadRd hs)) rfl ⟨hb, a, cap, rfl, hrep2⟩
            · have n42 : ¬ y = 42 := fun e => q42 (UInt8.toNat_inj.1 (by have : (42 : UInt8).toNat = 42 := rfl; omega))
              rw [if_neg q42]
              clear hdr hc hy hne
              obtain ⟨w1, hw1⟩ : ∃ w1, w.alloc (.cells #[.int .i64 0, .string ⟨#[]⟩, .int .i64 0, .slice none 0 0, .int .i64 0, .int .i64 0] 36) = w1 := ⟨_, rfl⟩
              have hz : Rd6 w1 w.heap.size (.int .i64 0) (.string ⟨#[]⟩) (.int .i64 0) (.slice none 0 0) (.int .i64 0) (.int .i64 0) := by rw [← hw1]; exact Rd6.new w _ _ _ _ _ _
              have hb1 : Below w.heap.size w w1 := by rw [← hw1]; exact (Below.refl _ w).alloc (Nat.le_refl _) _
              have hsz : w1.heap.size = w.heap.size + 1 := by rw [← hw1]; simp
              have HW1 := Lib.hid hw1
              have HZ := Lib.hid hz
              have HB := Lib.hid hb1
              clear hw1 hz hb1
              go_enter Tryd.func31, Tryd.ntmps31
              go_upto_region 1 with (fail)
              rw [show w.alloc (.cells #[.int .i64 0, .string ⟨#[]⟩, .int .i64 0, .slice none 0 0, .int .i64 0, .int .i64 0] 36) = w1 from HW1.out]
              clear HW1
              go_wp2_with fail
              refine (bad_any 5 w1).mono ?_
              rintro e wb ⟨rfl, hbb⟩
              unfold badV
              have HZb := Lib.hid (HZ.out.later hbb)
              have HBb := Lib.hid (HB.out.trans (hbb.mono HB.out.size))
              obtain ⟨z0, z1, z2, z3, z4, z5⟩ := HZb.out.cells
              obtain ⟨f0, f1, f2, f3, f4, f5⟩ := HZb.out.cells'
              clear hbb
              go_wp2
              have hs := HZb.out.set (.int .i64 0) (.string ⟨#[]⟩) (.int .i64 0) (.slice none 0 0) (.int .i64 0) (.int .i64 5)
              have hb := set6_below HBb.out (b := w.heap.size) (by omega) (.int .i64 0) (.string ⟨#[]⟩) (.int .i64 0) (.slice none 0 0) (.int .i64 0) (.int .i64 5)
              show bodyPost _ _ _ .ret _ (set6 wb (w.heap.size) (.int .i64 0) (.string ⟨#[]⟩) (.int .i64 0) (.slice none 0 0) (.int .i64 0) (.int .i64 5))
              generalize set6 wb (w.heap.size) (.int .i64 0) (.string ⟨#[]⟩) (.int .i64 0) (.slice none 0 0) (.int .i64 0) (.int .i64 5) = wend at hs hb
              exact bodyPost_ret (results_cell rfl rfl (loadRd hs)) rfl ⟨hb, by decide, rfl⟩
  · have h1I : (B.length : Int) ≤ (at_ : Int) := by omega
    have hr6 : Rp.replyD d (B.drop at_) = .err 6 := by
      rw [drop_end (by omega)]
      cases d <;> rw [Rp.replyD] <;> rfl
    rw [hr6]
    clear hr6
    obtain ⟨w1, hw1⟩ : ∃ w1, w.alloc (.cells #[.int .i64 0, .string ⟨#[]⟩, .int .i64 0, .slice none 0 0, .int .i64 0, .int .i64 0] 36) = w1 := ⟨_, rfl⟩
    have hz : Rd6 w1 w.heap.size (.int .i64 0) (.string ⟨#[]⟩) (.int .i64 0) (.slice none 0 0) (.int .i64 0) (.int .i64 0) := by rw [← hw1]; exact Rd6.new w _ _ _ _ _ _
    have hb1 : Below w.heap.size w w1 := by rw [← hw1]; exact (Below.refl _ w).alloc (Nat.le_refl _) _
    have hsz : w1.heap.size = w.heap.size + 1 := by rw [← hw1]; simp
    have HW1 := Lib.hid hw1
    have HZ := Lib.hid hz
    have HB := Lib.hid hb1
    clear hw1 hz hb1
    go_enter Tryd.func31, Tryd.ntmps31
    go_upto_region 1 with (fail)
    rw [show w.alloc (.cells #[.int .i64 0, .string ⟨#[]⟩, .int .i64 0, .slice none 0 0, .int .i64 0, .int .i64 0] 36) = w1 from HW1.out]
    clear HW1
    go_wp2_with fail
    refine (bad_any 6 w1).mono ?_
    rintro e wb ⟨rfl, hbb⟩
    unfold badV
    have HZb := Lib.hid (HZ.out.later hbb)
    have HBb := Lib.hid (HB.out.trans (hbb.mono HB.out.size))
    obtain ⟨z0, z1, z2, z3, z4, z5⟩ := HZb.out.cells
    obtain ⟨f0, f1, f2, f3, f4, f5⟩ := HZb.out.cells'
    clear hbb
    go_wp2
    have hs := HZb.out.set (.int .i64 0) (.string ⟨#[]⟩) (.int .i64 0) (.slice none 0 0) (.int .i64 0) (.int .i64 6)
    have hb := set6_below HBb.out (b := w.heap.size) (by omega) (.int .i64 0) (.string ⟨#[]⟩) (.int .i64 0) (.slice none 0 0) (.int .i64 0) (.int .i64 6)
    show bodyPost _ _ _ .ret _ (set6 wb (w.heap.size) (.int .i64 0) (.string ⟨#[]⟩) (.int .i64 0) (.slice none 0 0) (.int .i64 0) (.int .i64 6))
    generalize set6 wb (w.heap.size) (.int .i64 0) (.string ⟨#[]⟩) (.int .i64 0) (.slice none 0 0) (.int .i64 0) (.int .i64 6) = wend at hs hb
    exact bodyPost_ret (results_cell rfl rfl (loadRd hs)) rfl ⟨hb, by decide, rfl⟩

set_option maxRecDepth 100000 in
set_option maxHeartbeats 8000000 in
theorem reply_ref (B : List UInt8) (hl : B.length ≤ 1000) : ∀ d : Nat, d ≤ 8 → ∀ at_, at_ ≤ B.length → ∀ w,
    Calls Tryd.prog 31 #[.string ⟨B.toArray⟩, .int .i64 (at_ : Int), .int .i64 (d : Int)] w (RdR B.length w (Rp.replyD d (B.drop at_))) := by
  intro d
  induction d with
  | zero => exact fun _ => reply_step B 0 hl (by decide) (fun at_ hi w => by
      have := array_bad B at_ w
      exact this)
  | succ d ih =>
    intro hd
    exact reply_step B (d + 1) hl hd (fun at_ hi w => by
      have := array_ref B (Rp.replyD d) d at_ w hl hi (by omega) (Rp.replyD_inv d) (fun k hk w => ih (by omega) k hk w)
      exact this)
end Go.Proofs.YtcjbfgkmpoebgaaDoor
