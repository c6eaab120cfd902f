/- The contract of the reference's bulk. -/
import Derived.Test.YtcjbfgkmpoebgaaDoorRpRefNum
import Derived.Deep.RegionHeld3
namespace Go.Proofs.YtcjbfgkmpoebgaaDoor
open Go.RowKit Go.Shelf
attribute [local go_sem] Oper.semAt_some
set_option linter.unusedVariables false
set_option linter.unusedSimpArgs false

/-- what is told of a reply without elements. -/
def RdL (n : Nat) (o : Rp.Out Rp.R) (kk : Int) (ss : ByteArray) (nn nx ex : Int) : Prop :=
  match o with
  | .ok r t => r.l = [] ∧ kk = r.k ∧ ss = ⟨r.s.toArray⟩ ∧ nn = r.n ∧ nx = (n : Int) - (t.length : Int) ∧ ex = 0
  | .err c => c ≠ 0 ∧ kk = 0 ∧ ss = ⟨#[]⟩ ∧ nn = 0 ∧ nx = 0 ∧ ex = c

theorem end_form (B : List UInt8) (i : Nat) (k : Int) (s : List UInt8) (m : Int) (hl : B.length ≤ 1000) (hi : i ≤ B.length) :
    ∃ (kk : Int) (ss : ByteArray) (nn nx ex : Int), RdL B.length (Rp.endP (Rp.R.mk k s m []) (B.drop i)) kk ss nn nx ex ∧
      ∀ w, Calls Tryd.prog 55 #[.string ⟨B.toArray⟩, .int .i64 (i : Int), .agg #[.int .i64 k, .string ⟨s.toArray⟩, .int .i64 m, .slice none 0 0]] w fun e W => e = .returned (.agg #[.int .i64 kk, .string ss, .int .i64 nn, .slice none 0 0, .int .i64 nx, .int .i64 ex]) ∧ Below w.heap.size w W := by
  have has := endP_as () (Rp.R.mk k s m []) (B.drop i)
  have hc := fun w => end_any B i k s m w hl hi
  unfold EndOut at hc
  generalize Rp.endP () (B.drop i) = o at has hc
  cases o with
  | ok u t =>
    simp only at has hc
    exact ⟨k, ⟨s.toArray⟩, m, (B.length : Int) - (t.length : Int), 0, by rw [has]; exact ⟨rfl, rfl, rfl, rfl, rfl, rfl⟩, hc⟩
  | err c =>
    simp only at has hc
    by_cases hc0 : c = 0
    · subst hc0
      have : Rp.endP (Rp.R.mk k s m []) (B.drop i) ≠ .err 0 := by
        unfold Rp.endP
        split
        · simp
        · split
          · split
            · simp
            · split <;> simp
          · simp
      exact (this has).elim
    · refine ⟨0, ⟨#[]⟩, 0, 0, c, by rw [has]; exact ⟨hc0, rfl, rfl, rfl, rfl, rfl⟩, fun w => (hc w).mono ?_⟩
      rintro e W ⟨⟨-, h⟩, hb⟩
      exact ⟨h, hb⟩

/-- what is told of a number, its parts. -/
def RdN (n : Nat) (o : Rp.Out Int) (nn nx ex : Int) : Prop :=
  match o with
  | .ok v t => nn = v ∧ nx = (n : Int) - (t.length : Int) ∧ ex = 0
  | .err c => c ≠ 0 ∧ nn = 0 ∧ nx = 0 ∧ ex = c

theorem endP_err0 {α : Type} {a : α} {l : List UInt8} : Rp.endP a l ≠ .err 0 := by
  unfold Rp.endP
  split
  · simp
  · split
    · split
      · simp
      · split <;> simp
    · simp
theorem numL_err0 {neg : Bool} {M : Nat} : ∀ (l : List UInt8) (fst : Bool) (u : Nat), Rp.numL neg M fst u l ≠ .err 0
  | [], _, _ => by rw [Rp.numL]; simp
  | c :: r, fst, u => by
    rw [Rp.numL]
    split
    · split
      · simp
      · exact numL_err0 r _ _
    · split
      · simp
      · exact endP_err0
theorem refN_err0 {low : Bool} {m : Nat} {l : List UInt8} : Rp.refN low m l ≠ .err 0 := by
  unfold Rp.refN
  split
  · split
    · exact numL_err0 _ _ _
    · simp
  · exact numL_err0 _ _ _

theorem number_form (B : List UInt8) (at_ : Nat) (low : Bool) (m : Nat) (hl : B.length ≤ 1000) (hi : at_ ≤ B.length) (hm9 : 9 ≤ m) (hm : m ≤ 9223372036854775807) :
    ∃ (nn nx ex : Int), RdN B.length (Rp.refN low m (B.drop at_)) nn nx ex ∧
      ∀ w, Calls Tryd.prog 43 #[.string ⟨B.toArray⟩, .int .i64 (at_ : Int), .bool low, .int .u64 (m : Int)] w fun e W => e = .returned (.agg #[.int .i64 0, .string ⟨#[]⟩, .int .i64 nn, .slice none 0 0, .int .i64 nx, .int .i64 ex]) ∧ Below w.heap.size w W := by
  have hc := fun w => number_ref B at_ low m w hl hi hm9 hm
  have h0 := refN_err0 (low := low) (m := m) (l := B.drop at_)
  unfold NumbOut at hc
  generalize Rp.refN low m (B.drop at_) = o at hc h0
  cases o with
  | ok v t => exact ⟨v, (B.length : Int) - (t.length : Int), 0, ⟨rfl, rfl, rfl⟩, hc⟩
  | err c =>
    refine ⟨0, 0, c, ⟨fun h => h0 (by rw [h]), rfl, rfl, rfl⟩, fun w => (hc w).mono ?_⟩
    rintro e W ⟨⟨-, h⟩, hb⟩
    exact ⟨h, hb⟩

set_option maxRecDepth 100000 in
set_option maxHeartbeats 8000000 in
theorem bulk_ref (B : List UInt8) (at_ : Nat) (hl : B.length ≤ 1000) (hi : at_ ≤ B.length) :
    ∃ (kk : Int) (ss : ByteArray) (nn nx ex : Int), RdL B.length (Rp.bulkR (B.drop at_)) kk ss nn nx ex ∧
      ∀ w, Calls Tryd.prog 44 #[.string ⟨B.toArray⟩, .int .i64 (at_ : Int)] w fun e W => e = .returned (.agg #[.int .i64 kk, .string ss, .int .i64 nn, .slice none 0 0, .int .i64 nx, .int .i64 ex]) ∧ Below w.heap.size w W := by
  have hlI : (B.length : Int) ≤ 1000 := by omega
  have a0 : (0 : Int) ≤ (at_ : Int) := by omega
  have aL : (at_ : Int) ≤ (B.length : Int) := by omega
  have wa1 : IntKind.i64.wrap ((at_ : Int) + 1) = (at_ : Int) + 1 := IntWalk.i64_in _ (by omega)
  have wa2 : IntKind.i64.wrap ((at_ : Int) + 2) = (at_ : Int) + 2 := IntWalk.i64_in _ (by omega)
  by_cases h1 : at_ < B.length
  · have h1I : (at_ : Int) < (B.length : Int) := by omega
    have hix := idx_at B at_ h1
    have hdr := drop_at h1
    obtain ⟨c0, hc⟩ : ∃ c0, B.getD at_ 0 = c0 := ⟨_, rfl⟩
    rw [hc] at hix hdr
    obtain ⟨y', hy'⟩ : ∃ y' : Int, (c0.toNat : Int) = y' := ⟨_, rfl⟩
    rw [hy'] at hix
    by_cases h45 : c0 = 45
    · have hy45 : y' = 45 := by rw [← hy', h45]; rfl
      subst hy45
      by_cases h2 : at_ + 1 < B.length
      · have h2I : (at_ : Int) + 1 < (B.length : Int) := by omega
        have h2n : ¬ (B.length : Int) ≤ (at_ : Int) + 1 := by omega
        have hix2 := idx_at B (at_ + 1) h2
        rw [show ((at_ + 1 : Nat) : Int) = (at_ : Int) + 1 from rfl] at hix2
        have hdr2 := drop_at h2
        obtain ⟨c2, hc2⟩ : ∃ c2, B.getD (at_ + 1) 0 = c2 := ⟨_, rfl⟩
        rw [hc2] at hdr2 hix2
        obtain ⟨y2, hy2⟩ : ∃ y2 : Int, (c2.toNat : Int) = y2 := ⟨_, rfl⟩
        rw [hy2] at hix2
        by_cases h49 : c2 = 49
        · have hy49 : y2 = 49 := by rw [← hy2, h49]; rfl
          subst hy49
          obtain ⟨kk, ss, nn, nx, ex, hrd, hcall⟩ := end_form B (at_ + 2) 5 [] 0 hl (by omega)
          refine ⟨kk, ss, nn, nx, ex, ?_, fun w => ?_⟩
          · unfold Rp.bulkR
            rw [hdr, hdr2, if_pos (by rw [h45]; rfl), List.drop_succ_cons, List.drop_zero]
            simp only
            rw [if_pos h49]
            exact hrd
          · have HC := Lib.hid hcall
            rw [show ((at_ + 2 : Nat) : Int) = (at_ : Int) + 2 from rfl] at HC
            clear hdr hdr2 hc hc2 hy' hy2 hrd hcall
            obtain ⟨w1, hw1⟩ : ∃ w1, w.alloc (.cells #[.int .i64 0, .string ⟨#[]⟩, .int .i64 0, .slice none 0 0, .int .i64 0, .int .i64 0] 36) = w1 := ⟨_, rfl⟩
            have hz : Rd6 w1 w.heap.size (.int .i64 0) (.string ⟨#[]⟩) (.int .i64 0) (.slice none 0 0) (.int .i64 0) (.int .i64 0) := by rw [← hw1]; exact Rd6.new w _ _ _ _ _ _
            have hb1 : Below w.heap.size w w1 := by rw [← hw1]; exact (Below.refl _ w).alloc (Nat.le_refl _) _
            have hsz : w1.heap.size = w.heap.size + 1 := by rw [← hw1]; simp
            have HW1 := Lib.hid hw1
            have HZ := Lib.hid hz
            have HB := Lib.hid hb1
            clear hw1 hz hb1
            go_enter Tryd.func44, Tryd.ntmps44
            go_upto_region 1 with (fail)
            rw [show w.alloc (.cells #[.int .i64 0, .string ⟨#[]⟩, .int .i64 0, .slice none 0 0, .int .i64 0, .int .i64 0] 36) = w1 from HW1.out]
            clear HW1
            go_wp2_with fail
            refine (HC.out w1).mono ?_
            rintro e wb ⟨rfl, hbb⟩
            have HZb := Lib.hid (HZ.out.later hbb)
            have HBb := Lib.hid (HB.out.trans (hbb.mono HB.out.size))
            obtain ⟨z0, z1, z2, z3, z4, z5⟩ := HZb.out.cells
            obtain ⟨f0, f1, f2, f3, f4, f5⟩ := HZb.out.cells'
            clear hbb
            go_wp2
            have hs := HZb.out.set (.int .i64 kk) (.string ss) (.int .i64 nn) (.slice none 0 0) (.int .i64 nx) (.int .i64 ex)
            have hb := set6_below HBb.out (b := w.heap.size) (by omega) (.int .i64 kk) (.string ss) (.int .i64 nn) (.slice none 0 0) (.int .i64 nx) (.int .i64 ex)
            show bodyPost _ _ _ .ret _ (set6 wb (w.heap.size) (.int .i64 kk) (.string ss) (.int .i64 nn) (.slice none 0 0) (.int .i64 nx) (.int .i64 ex))
            generalize set6 wb (w.heap.size) (.int .i64 kk) (.string ss) (.int .i64 nn) (.slice none 0 0) (.int .i64 nx) (.int .i64 ex) = wend at hs hb
            exact bodyPost_ret (results_cell rfl rfl (loadRd hs)) rfl ⟨rfl, hb⟩
        · have hy49 : (y2 == 49) = false := by rw [beq_eq_false_iff_ne]; intro h; exact h49 (UInt8.toNat_inj.1 (by have : (49 : UInt8).toNat = 49 := rfl; omega))
          have hyn : ¬ y2 = 49 := beq_eq_false_iff_ne.1 hy49
          refine ⟨0, ⟨#[]⟩, 0, 0, 5, ?_, fun w => ?_⟩
          · unfold Rp.bulkR
            rw [hdr, hdr2, if_pos (by rw [h45]; rfl), List.drop_succ_cons, List.drop_zero]
            simp only
            rw [if_neg h49]
            exact ⟨by decide, rfl, rfl, rfl, rfl, rfl⟩
          · clear hdr hdr2 hc hc2 hy' hy2
            obtain ⟨w1, hw1⟩ : ∃ w1, w.alloc (.cells #[.int .i64 0, .string ⟨#[]⟩, .int .i64 0, .slice none 0 0, .int .i64 0, .int .i64 0] 36) = w1 := ⟨_, rfl⟩
            have hz : Rd6 w1 w.heap.size (.int .i64 0) (.string ⟨#[]⟩) (.int .i64 0) (.slice none 0 0) (.int .i64 0) (.int .i64 0) := by rw [← hw1]; exact Rd6.new w _ _ _ _ _ _
            have hb1 : Below w.heap.size w w1 := by rw [← hw1]; exact (Below.refl _ w).alloc (Nat.le_refl _) _
            have hsz : w1.heap.size = w.heap.size + 1 := by rw [← hw1]; simp
            have HW1 := Lib.hid hw1
            have HZ := Lib.hid hz
            have HB := Lib.hid hb1
            clear hw1 hz hb1
            go_enter Tryd.func44, Tryd.ntmps44
            go_upto_region 1 with (fail)
            rw [show w.alloc (.cells #[.int .i64 0, .string ⟨#[]⟩, .int .i64 0, .slice none 0 0, .int .i64 0, .int .i64 0] 36) = w1 from HW1.out]
            clear HW1
            go_wp2_with fail
            refine (bad_any 5 w1).mono ?_
            rintro e wb ⟨rfl, hbb⟩
            unfold badV
            have HZb := Lib.hid (HZ.out.later hbb)
            have HBb := Lib.hid (HB.out.trans (hbb.mono HB.out.size))
            obtain ⟨z0, z1, z2, z3, z4, z5⟩ := HZb.out.cells
            obtain ⟨f0, f1, f2, f3, f4, f5⟩ := HZb.out.cells'
            clear hbb
            go_wp2
            have hs := HZb.out.set (.int .i64 0) (.string ⟨#[]⟩) (.int .i64 0) (.slice none 0 0) (.int .i64 0) (.int .i64 5)
            have hb := set6_below HBb.out (b := w.heap.size) (by omega) (.int .i64 0) (.string ⟨#[]⟩) (.int .i64 0) (.slice none 0 0) (.int .i64 0) (.int .i64 5)
            show bodyPost _ _ _ .ret _ (set6 wb (w.heap.size) (.int .i64 0) (.string ⟨#[]⟩) (.int .i64 0) (.slice none 0 0) (.int .i64 0) (.int .i64 5))
            generalize set6 wb (w.heap.size) (.int .i64 0) (.string ⟨#[]⟩) (.int .i64 0) (.slice none 0 0) (.int .i64 0) (.int .i64 5) = wend at hs hb
            exact bodyPost_ret (results_cell rfl rfl (loadRd hs)) rfl ⟨rfl, hb⟩
      · have h2I : (B.length : Int) ≤ (at_ : Int) + 1 := by omega
        refine ⟨0, ⟨#[]⟩, 0, 0, 6, ?_, fun w => ?_⟩
        · unfold Rp.bulkR
          rw [hdr, if_pos (by rw [h45]; rfl), List.drop_succ_cons, List.drop_zero, drop_end (by omega)]
          exact ⟨by decide, rfl, rfl, rfl, rfl, rfl⟩
        · clear hdr hc hy'
          obtain ⟨w1, hw1⟩ : ∃ w1, w.alloc (.cells #[.int .i64 0, .string ⟨#[]⟩, .int .i64 0, .slice none 0 0, .int .i64 0, .int .i64 0] 36) = w1 := ⟨_, rfl⟩
          have hz : Rd6 w1 w.heap.size (.int .i64 0) (.string ⟨#[]⟩) (.int .i64 0) (.slice none 0 0) (.int .i64 0) (.int .i64 0) := by rw [← hw1]; exact Rd6.new w _ _ _ _ _ _
          have hb1 : Below w.heap.size w w1 := by rw [← hw1]; exact (Below.refl _ w).alloc (Nat.le_refl _) _
          have hsz : w1.heap.size = w.heap.size + 1 := by rw [← hw1]; simp
          have HW1 := Lib.hid hw1
          have HZ := Lib.hid hz
          have HB := Lib.hid hb1
          clear hw1 hz hb1
          go_enter Tryd.func44, Tryd.ntmps44
          go_upto_region 1 with (fail)
          rw [show w.alloc (.cells #[.int .i64 0, .string ⟨#[]⟩, .int .i64 0, .slice none 0 0, .int .i64 0, .int .i64 0] 36) = w1 from HW1.out]
          clear HW1
          go_wp2_with fail
          refine (bad_any 6 w1).mono ?_
          rintro e wb ⟨rfl, hbb⟩
          unfold badV
          have HZb := Lib.hid (HZ.out.later hbb)
          have HBb := Lib.hid (HB.out.trans (hbb.mono HB.out.size))
          obtain ⟨z0, z1, z2, z3, z4, z5⟩ := HZb.out.cells
          obtain ⟨f0, f1, f2, f3, f4, f5⟩ := HZb.out.cells'
          clear hbb
          go_wp2
          have hs := HZb.out.set (.int .i64 0) (.string ⟨#[]⟩) (.int .i64 0) (.slice none 0 0) (.int .i64 0) (.int .i64 6)
          have hb := set6_below HBb.out (b := w.heap.size) (by omega) (.int .i64 0) (.string ⟨#[]⟩) (.int .i64 0) (.slice none 0 0) (.int .i64 0) (.int .i64 6)
          show bodyPost _ _ _ .ret _ (set6 wb (w.heap.size) (.int .i64 0) (.string ⟨#[]⟩) (.int .i64 0) (.slice none 0 0) (.int .i64 0) (.int .i64 6))
          generalize set6 wb (w.heap.size) (.int .i64 0) (.string ⟨#[]⟩) (.int .i64 0) (.slice none 0 0) (.int .i64 0) (.int .i64 6) = wend at hs hb
          exact bodyPost_ret (results_cell rfl rfl (loadRd hs)) rfl ⟨rfl, hb⟩
    · have hy45 : (y' == 45) = false := by rw [beq_eq_false_iff_ne]; intro h; exact h45 (UInt8.toNat_inj.1 (by have : (45 : UInt8).toNat = 45 := rfl; omega))
      have hyn : ¬ y' = 45 := beq_eq_false_iff_ne.1 hy45
      have hh : ¬ (B.drop at_).head? = some 45 := by rw [hdr]; simpa using h45
      have HN0 := number_form B at_ false 1048576 hl hi (by decide) (by decide)
      clear hdr hc hy' h45
      have hN := HN0
      obtain ⟨nn0, nx0, ex0, hrd, hcall⟩ := hN
      have HCALL := Lib.hid hcall
      clear hcall HN0
      cases hR : Rp.refN false 1048576 (B.drop at_) with
      | err c =>
        rw [hR] at hrd
        obtain ⟨hc0, rfl, rfl, rfl⟩ := hrd
        refine ⟨0, ⟨#[]⟩, 0, 0, ex0, ?_, fun w => ?_⟩
        · unfold Rp.bulkR
          rw [if_neg hh, hR]
          exact ⟨hc0, rfl, rfl, rfl, rfl, rfl⟩
        · have hcb : (ex0 != 0) = true := by simp [hc0]
          clear hR hh
          obtain ⟨w1, hw1⟩ : ∃ w1, w.alloc (.cells #[.int .i64 0, .string ⟨#[]⟩, .int .i64 0, .slice none 0 0, .int .i64 0, .int .i64 0] 36) = w1 := ⟨_, rfl⟩
          have hz : Rd6 w1 w.heap.size (.int .i64 0) (.string ⟨#[]⟩) (.int .i64 0) (.slice none 0 0) (.int .i64 0) (.int .i64 0) := by rw [← hw1]; exact Rd6.new w _ _ _ _ _ _
          have hb1 : Below w.heap.size w w1 := by rw [← hw1]; exact (Below.refl _ w).alloc (Nat.le_refl _) _
          have hsz : w1.heap.size = w.heap.size + 1 := by rw [← hw1]; simp
          have HW1 := Lib.hid hw1
          have HZ := Lib.hid hz
          have HB := Lib.hid hb1
          clear hw1 hz hb1
          go_enter Tryd.func44, Tryd.ntmps44
          go_upto_region 1 with (fail)
          rw [show w.alloc (.cells #[.int .i64 0, .string ⟨#[]⟩, .int .i64 0, .slice none 0 0, .int .i64 0, .int .i64 0] 36) = w1 from HW1.out]
          clear HW1
          go_wp2_with fail
          refine (HCALL.out w1).mono ?_
          rintro e w2 ⟨rfl, hb2⟩
          go_upto_region 8 with (fail)
          obtain ⟨w3, hw3⟩ : ∃ w3, w2.alloc (.cells #[.int .i64 0, .string ⟨#[]⟩, .int .i64 0, .slice none 0 0, .int .i64 0, .int .i64 ex0] 36) = w3 := ⟨_, rfl⟩
          rw [hw3]
          have hy := Rd6.new w2 (.int .i64 0) (.string ⟨#[]⟩) (.int .i64 0) (.slice none 0 0) (.int .i64 0) (.int .i64 ex0)
          have hb3 : Below w2.heap.size w2 w3 := by rw [← hw3]; exact (Below.refl _ w2).alloc (Nat.le_refl _) _
          have hs3 : w3.heap.size = w2.heap.size + 1 := by rw [← hw3]; simp
          rw [hw3] at hy
          obtain ⟨y0, y1, y2, y3, y4, y5⟩ := hy.cells
          have HZ3 := Lib.hid ((HZ.out.later hb2).later hb3)
          have HB3 := Lib.hid ((HB.out.trans (hb2.mono HB.out.size)).trans (hb3.mono (HB.out.trans (hb2.mono HB.out.size)).size))
          have hz2 : w1.heap.size ≤ w2.heap.size := hb2.size
          clear hw3 hb2 hb3 hy
          go_upto_region 9 with (fail)
          obtain ⟨z0, z1, z2, z3, z4, z5⟩ := HZ3.out.cells
          obtain ⟨f0, f1, f2, f3, f4, f5⟩ := HZ3.out.cells'
          go_wp2
          have hs := HZ3.out.set (.int .i64 0) (.string ⟨#[]⟩) (.int .i64 0) (.slice none 0 0) (.int .i64 0) (.int .i64 ex0)
          have hb := set6_below HB3.out (b := w.heap.size) (by omega) (.int .i64 0) (.string ⟨#[]⟩) (.int .i64 0) (.slice none 0 0) (.int .i64 0) (.int .i64 ex0)
          show bodyPost _ _ _ .ret _ (set6 w3 (w.heap.size) (.int .i64 0) (.string ⟨#[]⟩) (.int .i64 0) (.slice none 0 0) (.int .i64 0) (.int .i64 ex0))
          generalize set6 w3 (w.heap.size) (.int .i64 0) (.string ⟨#[]⟩) (.int .i64 0) (.slice none 0 0) (.int .i64 0) (.int .i64 ex0) = wend at hs hb
          exact bodyPost_ret (results_cell rfl rfl (loadRd hs)) rfl ⟨rfl, hb⟩
      | ok v t =>
        rw [hR] at hrd
        obtain ⟨hnv, hnx, rfl⟩ := hrd
        subst hnv
        have hdv : Rp.devP 0 ((1048576 : Nat) : Int) (B.drop at_) = .ok nn0 t := by rw [← Rp.refN_up (by decide)]; exact hR
        have hdev := Rp.devP_inv hdv
        have hv0 : 0 ≤ nn0 := hdev.2.1
        have hv1 : nn0 ≤ 1048576 := hdev.2.2
        have htl : t.length ≤ B.length := by
          have := congrArg List.length hdev.1
          rw [List.length_drop, List.length_append, List.length_append] at this
          omega
        obtain ⟨j, hj⟩ : ∃ j : Nat, nx0 = (j : Int) := ⟨nx0.toNat, by omega⟩
        subst hj
        have hjB : j ≤ B.length := by omega
        have hdrj : B.drop j = t := by
          have e1 : B.drop at_ = (Dig.dec nn0 ++ Rp.crlf) ++ t := hdev.1
          have e2 := congrArg List.length e1
          rw [List.length_drop, List.length_append] at e2
          have e3 : (B.drop at_).drop (j - at_) = t := by rw [e1, show j - at_ = (Dig.dec nn0 ++ Rp.crlf).length by omega, List.drop_left]
          rw [List.drop_drop, show at_ + (j - at_) = j by omega] at e3
          exact e3
        clear hdv
        obtain ⟨v, rfl⟩ : ∃ v : Nat, nn0 = (v : Int) := ⟨nn0.toNat, by omega⟩
        have wjv : IntKind.i64.wrap ((B.length : Int) - (j : Int)) = (B.length : Int) - (j : Int) := IntWalk.i64_in _ (by omega)
        have wjs : IntKind.i64.wrap ((j : Int) + (v : Int)) = (j : Int) + (v : Int) := IntWalk.i64_in _ (by omega)
        by_cases hlt : (t.length : Int) < (v : Int)
        · refine ⟨0, ⟨#[]⟩, 0, 0, 6, ?_, fun w => ?_⟩
          · unfold Rp.bulkR
            rw [if_neg hh, hR]
            show RdL _ (if (t.length : Int) < (v : Int) then _ else _) _ _ _ _ _
            rw [if_pos hlt]
            exact ⟨by decide, rfl, rfl, rfl, rfl, rfl⟩
          · have hgt : (B.length : Int) - (j : Int) < (v : Int) := by omega
            clear hR hh hdev hdrj hnx
            obtain ⟨w1, hw1⟩ : ∃ w1, w.alloc (.cells #[.int .i64 0, .string ⟨#[]⟩, .int .i64 0, .slice none 0 0, .int .i64 0, .int .i64 0] 36) = w1 := ⟨_, rfl⟩
            have hz : Rd6 w1 w.heap.size (.int .i64 0) (.string ⟨#[]⟩) (.int .i64 0) (.slice none 0 0) (.int .i64 0) (.int .i64 0) := by rw [← hw1]; exact Rd6.new w _ _ _ _ _ _
            have hb1 : Below w.heap.size w w1 := by rw [← hw1]; exact (Below.refl _ w).alloc (Nat.le_refl _) _
            have hsz : w1.heap.size = w.heap.size + 1 := by rw [← hw1]; simp
            have HW1 := Lib.hid hw1
            have HZ := Lib.hid hz
            have HB := Lib.hid hb1
            clear hw1 hz hb1
            go_enter Tryd.func44, Tryd.ntmps44
            go_upto_region 1 with (fail)
            rw [show w.alloc (.cells #[.int .i64 0, .string ⟨#[]⟩, .int .i64 0, .slice none 0 0, .int .i64 0, .int .i64 0] 36) = w1 from HW1.out]
            clear HW1
            go_wp2_with fail
            refine (HCALL.out w1).mono ?_
            rintro e w2 ⟨rfl, hb2⟩
            go_upto_region 8 with (fail)
            obtain ⟨w3, hw3⟩ : ∃ w3, w2.alloc (.cells #[.int .i64 0, .string ⟨#[]⟩, .int .i64 (v : Int), .slice none 0 0, .int .i64 (j : Int), .int .i64 0] 36) = w3 := ⟨_, rfl⟩
            rw [hw3]
            have hy := Rd6.new w2 (.int .i64 0) (.string ⟨#[]⟩) (.int .i64 (v : Int)) (.slice none 0 0) (.int .i64 (j : Int)) (.int .i64 0)
            have hb3 : Below w2.heap.size w2 w3 := by rw [← hw3]; exact (Below.refl _ w2).alloc (Nat.le_refl _) _
            have hs3 : w3.heap.size = w2.heap.size + 1 := by rw [← hw3]; simp
            rw [hw3] at hy
            obtain ⟨y0, y1, y2, y3, y4, y5⟩ := hy.cells
            have HZ3 := Lib.hid ((HZ.out.later hb2).later hb3)
            have HB3 := Lib.hid ((HB.out.trans (hb2.mono HB.out.size)).trans (hb3.mono (HB.out.trans (hb2.mono HB.out.size)).size))
            have hz2 : w1.heap.size ≤ w2.heap.size := hb2.size
            clear hw3 hb2 hb3 hy
            go_upto_region 10 with (fail)
            go_wp2_with fail
            refine (bad_any 6 w3).mono ?_
            rintro e wb ⟨rfl, hbb⟩
            unfold badV
            have HZb := Lib.hid (HZ3.out.later hbb)
            have HBb := Lib.hid (HB3.out.trans (hbb.mono HB3.out.size))
            obtain ⟨z0, z1, z2, z3, z4, z5⟩ := HZb.out.cells
            obtain ⟨f0, f1, f2, f3, f4, f5⟩ := HZb.out.cells'
            clear hbb
            go_wp2
            have hs := HZb.out.set (.int .i64 0) (.string ⟨#[]⟩) (.int .i64 0) (.slice none 0 0) (.int .i64 0) (.int .i64 6)
            have hb := set6_below HBb.out (b := w.heap.size) (by omega) (.int .i64 0) (.string ⟨#[]⟩) (.int .i64 0) (.slice none 0 0) (.int .i64 0) (.int .i64 6)
            show bodyPost _ _ _ .ret _ (set6 wb (w.heap.size) (.int .i64 0) (.string ⟨#[]⟩) (.int .i64 0) (.slice none 0 0) (.int .i64 0) (.int .i64 6))
            generalize set6 wb (w.heap.size) (.int .i64 0) (.string ⟨#[]⟩) (.int .i64 0) (.slice none 0 0) (.int .i64 0) (.int .i64 6) = wend at hs hb
            exact bodyPost_ret (results_cell rfl rfl (loadRd hs)) rfl ⟨rfl, hb⟩
        · have hle : j + v ≤ B.length := by omega
          obtain ⟨kk, ss, nn, nx, ex, hrd2, hcall2⟩ := end_form B (j + v) 4 ((B.drop j).take v) 0 hl hle
          refine ⟨kk, ss, nn, nx, ex, ?_, fun w => ?_⟩
          · unfold Rp.bulkR
            rw [if_neg hh, hR]
            show RdL _ (if (t.length : Int) < (v : Int) then _ else _) _ _ _ _ _
            rw [if_neg hlt, Int.toNat_natCast, ← hdrj, List.drop_drop]
            exact hrd2
          · have hng : ¬ (B.length : Int) - (j : Int) < (v : Int) := by omega
            have HC2 := Lib.hid hcall2
            rw [show (((j + v : Nat) : Nat) : Int) = (j : Int) + (v : Int) from by omega] at HC2
            have hcut : ∀ W : World, (Instr.slice 9 (.string ⟨B.toArray⟩) (some (.int .i64 (j : Int))) (some (.int .i64 ((j : Int) + (v : Int)))) none).run Tryd.prog W = .ok (.string ⟨((B.drop j).take v).toArray⟩) W := fun W => by
              have := cut_at B j (j + v) (by omega) hle W
              rwa [show j + v - j = v by omega, show (((j + v : Nat) : Nat) : Int) = (j : Int) + (v : Int) from by omega] at this
            have HCUT := Lib.hid hcut
            clear hR hh hdev hdrj hnx hcall2 hrd2 hlt hcut
            obtain ⟨w1, hw1⟩ : ∃ w1, w.alloc (.cells #[.int .i64 0, .string ⟨#[]⟩, .int .i64 0, .slice none 0 0, .int .i64 0, .int .i64 0] 36) = w1 := ⟨_, rfl⟩
            have hz : Rd6 w1 w.heap.size (.int .i64 0) (.string ⟨#[]⟩) (.int .i64 0) (.slice none 0 0) (.int .i64 0) (.int .i64 0) := by rw [← hw1]; exact Rd6.new w _ _ _ _ _ _
            have hb1 : Below w.heap.size w w1 := by rw [← hw1]; exact (Below.refl _ w).alloc (Nat.le_refl _) _
            have hsz : w1.heap.size = w.heap.size + 1 := by rw [← hw1]; simp
            have HW1 := Lib.hid hw1
            have HZ := Lib.hid hz
            have HB := Lib.hid hb1
            clear hw1 hz hb1
            go_enter Tryd.func44, Tryd.ntmps44
            go_upto_region 1 with (fail)
            rw [show w.alloc (.cells #[.int .i64 0, .string ⟨#[]⟩, .int .i64 0, .slice none 0 0, .int .i64 0, .int .i64 0] 36) = w1 from HW1.out]
            clear HW1
            go_wp2_with fail
            refine (HCALL.out w1).mono ?_
            rintro e w2 ⟨rfl, hb2⟩
            go_upto_region 8 with (fail)
            obtain ⟨w3, hw3⟩ : ∃ w3, w2.alloc (.cells #[.int .i64 0, .string ⟨#[]⟩, .int .i64 (v : Int), .slice none 0 0, .int .i64 (j : Int), .int .i64 0] 36) = w3 := ⟨_, rfl⟩
            rw [hw3]
            have hy := Rd6.new w2 (.int .i64 0) (.string ⟨#[]⟩) (.int .i64 (v : Int)) (.slice none 0 0) (.int .i64 (j : Int)) (.int .i64 0)
            have hb3 : Below w2.heap.size w2 w3 := by rw [← hw3]; exact (Below.refl _ w2).alloc (Nat.le_refl _) _
            have hs3 : w3.heap.size = w2.heap.size + 1 := by rw [← hw3]; simp
            rw [hw3] at hy
            obtain ⟨y0, y1, y2, y3, y4, y5⟩ := hy.cells
            have HZ3 := Lib.hid ((HZ.out.later hb2).later hb3)
            have HB3 := Lib.hid ((HB.out.trans (hb2.mono HB.out.size)).trans (hb3.mono (HB.out.trans (hb2.mono HB.out.size)).size))
            have hz2 : w1.heap.size ≤ w2.heap.size := hb2.size
            clear hw3 hb2 hb3 hy
            go_upto_region 12 with (fail)
            have hcut := HCUT.out
            generalize (B.drop j).take v = SS at hcut HC2
            have hlt3 : w2.heap.size < w3.heap.size := by omega
            have hne23 : w2.heap.size ≠ w.heap.size := by omega
            go_region_held3 (fun W' => W'.cell? ⟨w2.heap.size, 2, none⟩ = some (.int .i64 (v : Int)) ∧ W'.cell? ⟨w2.heap.size, 4, none⟩ = some (.int .i64 (j : Int)))
              (first | (with_reducible exact ⟨k2, k4⟩) | go_keep | exact ⟨k2s _ _ _ _ _ _, k4s _ _ _ _ _ _⟩)
              ((go_at_call 55; refine (HC2.out _).mono ?_; rintro e w5 ⟨rfl, hb5⟩; have hbw5 : Below w3.heap.size w3 w5 := ((Below.refl w3.heap.size w3).drew).trans hb5; have k2 := (hbw5.cell (p := ⟨w2.heap.size, 2, none⟩) hlt3).trans y2; have k4 := (hbw5.cell (p := ⟨w2.heap.size, 4, none⟩) hlt3).trans y4; have k2s := fun x0 x1 x2 x3 x4 x5 => (set6_cell w5 (b := w.heap.size) (j := 2) hne23 x0 x1 x2 x3 x4 x5).trans k2; have k4s := fun x0 x1 x2 x3 x4 x5 => (set6_cell w5 (b := w.heap.size) (j := 4) hne23 x0 x1 x2 x3 x4 x5).trans k4; unfold set6 at k2s k4s; obtain ⟨z0, z1, z2, z3, z4, z5⟩ := (HZ3.out.later hbw5).cells; obtain ⟨f0, f1, f2, f3, f4, f5⟩ := (HZ3.out.later hbw5).cells'))
            have HZ5 := Lib.hid (HZ3.out.later hbw5)
            have HB5 := Lib.hid (HB3.out.trans (hbw5.mono HB3.out.size))
            clear hb5 hbw5 k2 k4 k2s k4s
            go_wp2
            have hs := HZ5.out.set (.int .i64 kk) (.string ss) (.int .i64 nn) (.slice none 0 0) (.int .i64 nx) (.int .i64 ex)
            have hb := set6_below HB5.out (b := w.heap.size) (by omega) (.int .i64 kk) (.string ss) (.int .i64 nn) (.slice none 0 0) (.int .i64 nx) (.int .i64 ex)
            show bodyPost _ _ _ .ret _ (set6 w5 (w.heap.size) (.int .i64 kk) (.string ss) (.int .i64 nn) (.slice none 0 0) (.int .i64 nx) (.int .i64 ex))
            generalize set6 w5 (w.heap.size) (.int .i64 kk) (.string ss) (.int .i64 nn) (.slice none 0 0) (.int .i64 nx) (.int .i64 ex) = wend at hs hb
            exact bodyPost_ret (results_cell rfl rfl (loadRd hs)) rfl ⟨rfl, hb⟩
  · have h1I : ¬ (at_ : Int) < (B.length : Int) := by omega
    have hh : ¬ (B.drop at_).head? = some 45 := by rw [drop_end (by omega)]; simp
    have HN0 := number_form B at_ false 1048576 hl hi (by decide) (by decide)
    have hN := HN0
    obtain ⟨nn0, nx0, ex0, hrd, hcall⟩ := hN
    have HCALL := Lib.hid hcall
    clear hcall HN0
    cases hR : Rp.refN false 1048576 (B.drop at_) with
    | err c =>
      rw [hR] at hrd
      obtain ⟨hc0, rfl, rfl, rfl⟩ := hrd
      refine ⟨0, ⟨#[]⟩, 0, 0, ex0, ?_, fun w => ?_⟩
      · unfold Rp.bulkR
        rw [if_neg hh, hR]
        exact ⟨hc0, rfl, rfl, rfl, rfl, rfl⟩
      · have hcb : (ex0 != 0) = true := by simp [hc0]
        clear hR hh
        obtain ⟨w1, hw1⟩ : ∃ w1, w.alloc (.cells #[.int .i64 0, .string ⟨#[]⟩, .int .i64 0, .slice none 0 0, .int .i64 0, .int .i64 0] 36) = w1 := ⟨_, rfl⟩
        have hz : Rd6 w1 w.heap.size (.int .i64 0) (.string ⟨#[]⟩) (.int .i64 0) (.slice none 0 0) (.int .i64 0) (.int .i64 0) := by rw [← hw1]; exact Rd6.new w _ _ _ _ _ _
        have hb1 : Below w.heap.size w w1 := by rw [← hw1]; exact (Below.refl _ w).alloc (Nat.le_refl _) _
        have hsz : w1.heap.size = w.heap.size + 1 := by rw [← hw1]; simp
        have HW1 := Lib.hid hw1
        have HZ := Lib.hid hz
        have HB := Lib.hid hb1
        clear hw1 hz hb1
        go_enter Tryd.func44, Tryd.ntmps44
        go_upto_region 1 with (fail)
        rw [show w.alloc (.cells #[.int .i64 0, .string ⟨#[]⟩, .int .i64 0, .slice none 0 0, .int .i64 0, .int .i64 0] 36) = w1 from HW1.out]
        clear HW1
        go_wp2_with fail
        refine (HCALL.out w1).mono ?_
        rintro e w2 ⟨rfl, hb2⟩
        go_upto_region 8 with (fail)
        obtain ⟨w3, hw3⟩ : ∃ w3, w2.alloc (.cells #[.int .i64 0, .string ⟨#[]⟩, .int .i64 0, .slice none 0 0, .int .i64 0, .int .i64 ex0] 36) = w3 := ⟨_, rfl⟩
        rw [hw3]
        have hy := Rd6.new w2 (.int .i64 0) (.string ⟨#[]⟩) (.int .i64 0) (.slice none 0 0) (.int .i64 0) (.int .i64 ex0)
        have hb3 : Below w2.heap.size w2 w3 := by rw [← hw3]; exact (Below.refl _ w2).alloc (Nat.le_refl _) _
        have hs3 : w3.heap.size = w2.heap.size + 1 := by rw [← hw3]; simp
        rw [hw3] at hy
        obtain ⟨y0, y1, y2, y3, y4, y5⟩ := hy.cells
        have HZ3 := Lib.hid ((HZ.out.later hb2).later hb3)
        have HB3 := Lib.hid ((HB.out.trans (hb2.mono HB.out.size)).trans (hb3.mono (HB.out.trans (hb2.mono HB.out.size)).size))
        have hz2 : w1.heap.size ≤ w2.heap.size := hb2.size
        clear hw3 hb2 hb3 hy
        go_upto_region 9 with (fail)
        obtain ⟨z0, z1, z2, z3, z4, z5⟩ := HZ3.out.cells
        obtain ⟨f0, f1, f2, f3, f4, f5⟩ := HZ3.out.cells'
        go_wp2
        have hs := HZ3.out.set (.int .i64 0) (.string ⟨#[]⟩) (.int .i64 0) (.slice none 0 0) (.int .i64 0) (.int .i64 ex0)
        have hb := set6_below HB3.out (b := w.heap.size) (by omega) (.int .i64 0) (.string ⟨#[]⟩) (.int .i64 0) (.slice none 0 0) (.int .i64 0) (.int .i64 ex0)
        show bodyPost _ _ _ .ret _ (set6 w3 (w.heap.size) (.int .i64 0) (.string ⟨#[]⟩) (.int .i64 0) (.slice none 0 0) (.int .i64 0) (.int .i64 ex0))
        generalize set6 w3 (w.heap.size) (.int .i64 0) (.string ⟨#[]⟩) (.int .i64 0) (.slice none 0 0) (.int .i64 0) (.int .i64 ex0) = wend at hs hb
        exact bodyPost_ret (results_cell rfl rfl (loadRd hs)) rfl ⟨rfl, hb⟩
    | ok v t =>
      rw [hR] at hrd
      obtain ⟨hnv, hnx, rfl⟩ := hrd
      subst hnv
      have hdv : Rp.devP 0 ((1048576 : Nat) : Int) (B.drop at_) = .ok nn0 t := by rw [← Rp.refN_up (by decide)]; exact hR
      have hdev := Rp.devP_inv hdv
      have hv0 : 0 ≤ nn0 := hdev.2.1
      have hv1 : nn0 ≤ 1048576 := hdev.2.2
      have htl : t.length ≤ B.length := by
        have := congrArg List.length hdev.1
        rw [List.length_drop, List.length_append, List.length_append] at this
        omega
      obtain ⟨j, hj⟩ : ∃ j : Nat, nx0 = (j : Int) := ⟨nx0.toNat, by omega⟩
      subst hj
      have hjB : j ≤ B.length := by omega
      have hdrj : B.drop j = t := by
        have e1 : B.drop at_ = (Dig.dec nn0 ++ Rp.crlf) ++ t := hdev.1
        have e2 := congrArg List.length e1
        rw [List.length_drop, List.length_append] at e2
        have e3 : (B.drop at_).drop (j - at_) = t := by rw [e1, show j - at_ = (Dig.dec nn0 ++ Rp.crlf).length by omega, List.drop_left]
        rw [List.drop_drop, show at_ + (j - at_) = j by omega] at e3
        exact e3
      clear hdv
      obtain ⟨v, rfl⟩ : ∃ v : Nat, nn0 = (v : Int) := ⟨nn0.toNat, by omega⟩
      have wjv : IntKind.i64.wrap ((B.length : Int) - (j : Int)) = (B.length : Int) - (j : Int) := IntWalk.i64_in _ (by omega)
      have wjs : IntKind.i64.wrap ((j : Int) + (v : Int)) = (j : Int) + (v : Int) := IntWalk.i64_in _ (by omega)
      by_cases hlt : (t.length : Int) < (v : Int)
      · refine ⟨0, ⟨#[]⟩, 0, 0, 6, ?_, fun w => ?_⟩
        · unfold Rp.bulkR
          rw [if_neg hh, hR]
          show RdL _ (if (t.length : Int) < (v : Int) then _ else _) _ _ _ _ _
          rw [if_pos hlt]
          exact ⟨by decide, rfl, rfl, rfl, rfl, rfl⟩
        · have hgt : (B.length : Int) - (j : Int) < (v : Int) := by omega
          clear hR hh hdev hdrj hnx
          obtain ⟨w1, hw1⟩ : ∃ w1, w.alloc (.cells #[.int .i64 0, .string ⟨#[]⟩, .int .i64 0, .slice none 0 0, .int .i64 0, .int .i64 0] 36) = w1 := ⟨_, rfl⟩
          have hz : Rd6 w1 w.heap.size (.int .i64 0) (.string ⟨#[]⟩) (.int .i64 0) (.slice none 0 0) (.int .i64 0) (.int .i64 0) := by rw [← hw1]; exact Rd6.new w _ _ _ _ _ _
          have hb1 : Below w.heap.size w w1 := by rw [← hw1]; exact (Below.refl _ w).alloc (Nat.le_refl _) _
          have hsz : w1.heap.size = w.heap.size + 1 := by rw [← hw1]; simp
          have HW1 := Lib.hid hw1
          have HZ := Lib.hid hz
          have HB := Lib.hid hb1
          clear hw1 hz hb1
          go_enter Tryd.func44, Tryd.ntmps44
          go_upto_region 1 with (fail)
          rw [show w.alloc (.cells #[.int .i64 0, .string ⟨#[]⟩, .int .i64 0, .slice none 0 0, .int .i64 0, .int .i64 0] 36) = w1 from HW1.out]
          clear HW1
          go_wp2_with fail
          refine (HCALL.out w1).mono ?_
          rintro e w2 ⟨rfl, hb2⟩
          go_upto_region 8 with (fail)
          obtain ⟨w3, hw3⟩ : ∃ w3, w2.alloc (.cells #[.int .i64 0, .string ⟨#[]⟩, .int .i64 (v : Int), .slice none 0 0, .int .i64 (j : Int), .int .i64 0] 36) = w3 := ⟨_, rfl⟩
          rw [hw3]
          have hy := Rd6.new w2 (.int .i64 0) (.string ⟨#[]⟩) (.int .i64 (v : Int)) (.slice none 0 0) (.int .i64 (j : Int)) (.int .i64 0)
          have hb3 : Below w2.heap.size w2 w3 := by rw [← hw3]; exact (Below.refl _ w2).alloc (Nat.le_refl _) _
          have hs3 : w3.heap.size = w2.heap.size + 1 := by rw [← hw3]; simp
          rw [hw3] at hy
          obtain ⟨y0, y1, y2, y3, y4, y5⟩ := hy.cells
          have HZ3 := Lib.hid ((HZ.out.later hb2).later hb3)
          have HB3 := Lib.hid ((HB.out.trans (hb2.mono HB.out.size)).trans (hb3.mono (HB.out.trans (hb2.mono HB.out.size)).size))
          have hz2 : w1.heap.size ≤ w2.heap.size := hb2.size
          clear hw3 hb2 hb3 hy
          go_upto_region 10 with (fail)
          go_wp2_with fail
          refine (bad_any 6 w3).mono ?_
          rintro e wb ⟨rfl, hbb⟩
          unfold badV
          have HZb := Lib.hid (HZ3.out.later hbb)
          have HBb := Lib.hid (HB3.out.trans (hbb.mono HB3.out.size))
          obtain ⟨z0, z1, z2, z3, z4, z5⟩ := HZb.out.cells
          obtain ⟨f0, f1, f2, f3, f4, f5⟩ := HZb.out.cells'
          clear hbb
          go_wp2
          have hs := HZb.out.set (.int .i64 0) (.string ⟨#[]⟩) (.int .i64 0) (.slice none 0 0) (.int .i64 0) (.int .i64 6)
          have hb := set6_below HBb.out (b := w.heap.size) (by omega) (.int .i64 0) (.string ⟨#[]⟩) (.int .i64 0) (.slice none 0 0) (.int .i64 0) (.int .i64 6)
          show bodyPost _ _ _ .ret _ (set6 wb (w.heap.size) (.int .i64 0) (.string ⟨#[]⟩) (.int .i64 0) (.slice none 0 0) (.int .i64 0) (.int .i64 6))
          generalize set6 wb (w.heap.size) (.int .i64 0) (.string ⟨#[]⟩) (.int .i64 0) (.slice none 0 0) (.int .i64 0) (.int .i64 6) = wend at hs hb
          exact bodyPost_ret (results_cell rfl rfl (loadRd hs)) rfl ⟨rfl, hb⟩
      · have hle : j + v ≤ B.length := by omega
        obtain ⟨kk, ss, nn, nx, ex, hrd2, hcall2⟩ := end_form B (j + v) 4 ((B.drop j).take v) 0 hl hle
        refine ⟨kk, ss, nn, nx, ex, ?_, fun w => ?_⟩
        · unfold Rp.bulkR
          rw [if_neg hh, hR]
          show RdL _ (if (t.length : Int) < (v : Int) then _ else _) _ _ _ _ _
          rw [if_neg hlt, Int.toNat_natCast, ← hdrj, List.drop_drop]
          exact hrd2
        · have hng : ¬ (B.length : Int) - (j : Int) < (v : Int) := by omega
          have HC2 := Lib.hid hcall2
          rw [show (((j + v : Nat) : Nat) : Int) = (j : Int) + (v : Int) from by omega] at HC2
          have hcut : ∀ W : World, (Instr.slice 9 (.string ⟨B.toArray⟩) (some (.int .i64 (j : Int))) (some (.int .i64 ((j : Int) + (v : Int)))) none).run Tryd.prog W = .ok (.string ⟨((B.drop j).take v).toArray⟩) W := fun W => by
            have := cut_at B j (j + v) (by omega) hle W
            rwa [show j + v - j = v by omega, show (((j + v : Nat) : Nat) : Int) = (j : Int) + (v : Int) from by omega] at this
          have HCUT := Lib.hid hcut
          clear hR hh hdev hdrj hnx hcall2 hrd2 hlt hcut
          obtain ⟨w1, hw1⟩ : ∃ w1, w.alloc (.cells #[.int .i64 0, .string ⟨#[]⟩, .int .i64 0, .slice none 0 0, .int .i64 0, .int .i64 0] 36) = w1 := ⟨_, rfl⟩
          have hz : Rd6 w1 w.heap.size (.int .i64 0) (.string ⟨#[]⟩) (.int .i64 0) (.slice none 0 0) (.int .i64 0) (.int .i64 0) := by rw [← hw1]; exact Rd6.new w _ _ _ _ _ _
          have hb1 : Below w.heap.size w w1 := by rw [← hw1]; exact (Below.refl _ w).alloc (Nat.le_refl _) _
          have hsz : w1.heap.size = w.heap.size + 1 := by rw [← hw1]; simp
          have HW1 := Lib.hid hw1
          have HZ := Lib.hid hz
          have HB := Lib.hid hb1
          clear hw1 hz hb1
          go_enter Tryd.func44, Tryd.ntmps44
          go_upto_region 1 with (fail)
          rw [show w.alloc (.cells #[.int .i64 0, .string ⟨#[]⟩, .int .i64 0, .slice none 0 0, .int .i64 0, .int .i64 0] 36) = w1 from HW1.out]
          clear HW1
          go_wp2_with fail
          refine (HCALL.out w1).mono ?_
          rintro e w2 ⟨rfl, hb2⟩
          go_upto_region 8 with (fail)
          obtain ⟨w3, hw3⟩ : ∃ w3, w2.alloc (.cells #[.int .i64 0, .string ⟨#[]⟩, .int .i64 (v : Int), .slice none 0 0, .int .i64 (j : Int), .int .i64 0] 36) = w3 := ⟨_, rfl⟩
          rw [hw3]
          have hy := Rd6.new w2 (.int .i64 0) (.string ⟨#[]⟩) (.int .i64 (v : Int)) (.slice none 0 0) (.int .i64 (j : Int)) (.int .i64 0)
          have hb3 : Below w2.heap.size w2 w3 := by rw [← hw3]; exact (Below.refl _ w2).alloc (Nat.le_refl _) _
          have hs3 : w3.heap.size = w2.heap.size + 1 := by rw [← hw3]; simp
          rw [hw3] at hy
          obtain ⟨y0, y1, y2, y3, y4, y5⟩ := hy.cells
          have HZ3 := Lib.hid ((HZ.out.later hb2).later hb3)
          have HB3 := Lib.hid ((HB.out.trans (hb2.mono HB.out.size)).trans (hb3.mono (HB.out.trans (hb2.mono HB.out.size)).size))
          have hz2 : w1.heap.size ≤ w2.heap.size := hb2.size
          clear hw3 hb2 hb3 hy
          go_upto_region 12 with (fail)
          have hcut := HCUT.out
          generalize (B.drop j).take v = SS at hcut HC2
          have hlt3 : w2.heap.size < w3.heap.size := by omega
          have hne23 : w2.heap.size ≠ w.heap.size := by omega
          go_region_held3 (fun W' => W'.cell? ⟨w2.heap.size, 2, none⟩ = some (.int .i64 (v : Int)) ∧ W'.cell? ⟨w2.heap.size, 4, none⟩ = some (.int .i64 (j : Int)))
            (first | (with_reducible exact ⟨k2, k4⟩) | go_keep | exact ⟨k2s _ _ _ _ _ _, k4s _ _ _ _ _ _⟩)
            ((go_at_call 55; refine (HC2.out _).mono ?_; rintro e w5 ⟨rfl, hb5⟩; have hbw5 : Below w3.heap.size w3 w5 := ((Below.refl w3.heap.size w3).drew).trans hb5; have k2 := (hbw5.cell (p := ⟨w2.heap.size, 2, none⟩) hlt3).trans y2; have k4 := (hbw5.cell (p := ⟨w2.heap.size, 4, none⟩) hlt3).trans y4; have k2s := fun x0 x1 x2 x3 x4 x5 => (set6_cell w5 (b := w.heap.size) (j := 2) hne23 x0 x1 x2 x3 x4 x5).trans k2; have k4s := fun x0 x1 x2 x3 x4 x5 => (set6_cell w5 (b := w.heap.size) (j := 4) hne23 x0 x1 x2 x3 x4 x5).trans k4; unfold set6 at k2s k4s; obtain ⟨z0, z1, z2, z3, z4, z5⟩ := (HZ3.out.later hbw5).cells; obtain ⟨f0, f1, f2, f3, f4, f5⟩ := (HZ3.out.later hbw5).cells'))
          have HZ5 := Lib.hid (HZ3.out.later hbw5)
          have HB5 := Lib.hid (HB3.out.trans (hbw5.mono HB3.out.size))
          clear hb5 hbw5 k2 k4 k2s k4s
          go_wp2
          have hs := HZ5.out.set (.int .i64 kk) (.string ss) (.int .i64 nn) (.slice none 0 0) (.int .i64 nx) (.int .i64 ex)
          have hb := set6_below HB5.out (b := w.heap.size) (by omega) (.int .i64 kk) (.string ss) (.int .i64 nn) (.slice none 0 0) (.int .i64 nx) (.int .i64 ex)
          show bodyPost _ _ _ .ret _ (set6 w5 (w.heap.size) (.int .i64 kk) (.string ss) (.int .i64 nn) (.slice none 0 0) (.int .i64 nx) (.int .i64 ex))
          generalize set6 w5 (w.heap.size) (.int .i64 kk) (.string ss) (.int .i64 nn) (.slice none 0 0) (.int .i64 nx) (.int .i64 ex) = wend at hs hb
          exact bodyPost_ret (results_cell rfl rfl (loadRd hs)) rfl ⟨rfl, hb⟩
end Go.Proofs.YtcjbfgkmpoebgaaDoor
