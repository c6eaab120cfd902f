/- The contract of the reference's array. -/
import Derived.Test.YtcjbfgkmpoebgaaDoorRpRefBulk
import Derived.Test.YtcjbfgkmpoebgaaDoorRpMakeArr
namespace Go.Proofs.YtcjbfgkmpoebgaaDoor
open Go.RowKit Go.Shelf
attribute [local go_sem] Oper.semAt_some
set_option linter.unusedVariables false
set_option linter.unusedSimpArgs false

/-- what is told of a reply read. -/
def RdR (n : Nat) (w : World) (o : Rp.Out Rp.R) (e : Ending) (W : World) : Prop :=
  Below w.heap.size w W ∧ match o with
    | .ok r t => ∃ a cap, e = .returned (.agg #[.int .i64 r.k, .string ⟨r.s.toArray⟩, .int .i64 r.n, .slice a r.l.length cap, .int .i64 ((n : Int) - (t.length : Int)), .int .i64 0]) ∧ Rep (fun k => w.heap.size ≤ k) W r (rv r.k r.s r.n a r.l.length cap)
    | .err c => c ≠ 0 ∧ e = .returned (badV c)

theorem suffix_at {B x t : List UInt8} {j : Nat} (h : B.drop j = x ++ t) (hj : j ≤ B.length) : t.length ≤ B.length - j ∧ B.drop (B.length - t.length) = t := by
  have e2 := congrArg List.length h
  rw [List.length_drop, List.length_append] at e2
  refine ⟨by omega, ?_⟩
  have e3 : (B.drop j).drop x.length = t := by rw [h, List.drop_left]
  rw [List.drop_drop, show j + x.length = B.length - t.length by omega] at e3
  exact e3

theorem below_undrew {wr W : World} (h : Below wr.heap.size wr W) : Below wr.drew.heap.size wr.drew W := ⟨h.os, h.tape, h.output, h.size, h.block⟩

set_option maxRecDepth 100000 in
set_option maxHeartbeats 8000000 in
theorem array_bad (B : List UInt8) (at_ : Nat) (w : World) :
    Calls Tryd.prog 45 #[.string ⟨B.toArray⟩, .int .i64 (at_ : Int), .int .i64 0] w (RdR B.length w (.err 5)) := by
  obtain ⟨w1, hw1⟩ : ∃ w1, w.alloc (.cells #[.int .i64 0, .string ⟨#[]⟩, .int .i64 0, .slice none 0 0, .int .i64 0, .int .i64 0] 36) = w1 := ⟨_, rfl⟩
  have hz : Rd6 w1 w.heap.size (.int .i64 0) (.string ⟨#[]⟩) (.int .i64 0) (.slice none 0 0) (.int .i64 0) (.int .i64 0) := by rw [← hw1]; exact Rd6.new w _ _ _ _ _ _
  have hb1 : Below w.heap.size w w1 := by rw [← hw1]; exact (Below.refl _ w).alloc (Nat.le_refl _) _
  have hsz : w1.heap.size = w.heap.size + 1 := by rw [← hw1]; simp
  have HW1 := Lib.hid hw1
  have HZ := Lib.hid hz
  have HB := Lib.hid hb1
  clear hw1 hz hb1
  go_enter Tryd.func45, Tryd.ntmps45
  go_upto_region 1 with (fail)
  rw [show w.alloc (.cells #[.int .i64 0, .string ⟨#[]⟩, .int .i64 0, .slice none 0 0, .int .i64 0, .int .i64 0] 36) = w1 from HW1.out]
  clear HW1
  go_wp2_with fail
  refine (bad_any 5 w1).mono ?_
  rintro e wb ⟨rfl, hbb⟩
  unfold badV
  have HZb := Lib.hid (HZ.out.later hbb)
  have HBb := Lib.hid (HB.out.trans (hbb.mono HB.out.size))
  obtain ⟨z0, z1, z2, z3, z4, z5⟩ := HZb.out.cells
  obtain ⟨f0, f1, f2, f3, f4, f5⟩ := HZb.out.cells'
  clear hbb
  go_wp2
  have hs := HZb.out.set (.int .i64 0) (.string ⟨#[]⟩) (.int .i64 0) (.slice none 0 0) (.int .i64 0) (.int .i64 5)
  have hb := set6_below HBb.out (b := w.heap.size) (by omega) (.int .i64 0) (.string ⟨#[]⟩) (.int .i64 0) (.slice none 0 0) (.int .i64 0) (.int .i64 5)
  show bodyPost _ _ _ .ret _ (set6 wb (w.heap.size) (.int .i64 0) (.string ⟨#[]⟩) (.int .i64 0) (.slice none 0 0) (.int .i64 0) (.int .i64 5))
  generalize set6 wb (w.heap.size) (.int .i64 0) (.string ⟨#[]⟩) (.int .i64 0) (.slice none 0 0) (.int .i64 0) (.int .i64 5) = wend at hs hb
  exact bodyPost_ret (results_cell rfl rfl (loadRd hs)) rfl ⟨hb, by decide, rfl⟩

set_option maxRecDepth 100000 in
set_option maxHeartbeats 8000000 in
theorem array_ref (B : List UInt8) (f : List UInt8 → Rp.Out Rp.R) (d at_ : Nat) (w : World) (hl : B.length ≤ 1000) (hi : at_ ≤ B.length) (hd : d ≤ 8) (hinv : ∀ b r t, f b = .ok r t → b = Rp.enc r ++ t)
    (hF : ∀ k, k ≤ B.length → ∀ w, Calls Tryd.prog 31 #[.string ⟨B.toArray⟩, .int .i64 (k : Int), .int .i64 (d : Int)] w (RdR B.length w (f (B.drop k)))) :
    Calls Tryd.prog 45 #[.string ⟨B.toArray⟩, .int .i64 (at_ : Int), .int .i64 ((d : Int) + 1)] w (RdR B.length w (Rp.arrD f (B.drop at_))) := by
  have hlI : (B.length : Int) ≤ 1000 := by omega
  have d0 : (0 : Int) ≤ (d : Int) := by omega
  have d8 : (d : Int) ≤ 8 := by omega
  have a0 : (0 : Int) ≤ (at_ : Int) := by omega
  have aL : (at_ : Int) ≤ (B.length : Int) := by omega
  have hd1 : ¬ (d : Int) + 1 < 1 := by omega
  have wd1 : IntKind.i64.wrap ((d : Int) + 1 - 1) = (d : Int) := by rw [IntWalk.i64_in _ (by omega)]; omega
  have hN := number_form B at_ false 65536 hl hi (by decide) (by decide)
  obtain ⟨nn0, nx0, ex0, hrd, hcall⟩ := hN
  have HF := Lib.hid hF
  have HINV := Lib.hid hinv
  have HCALL := Lib.hid hcall
  clear hcall hF hinv
  have hdef : Rp.arrD f (B.drop at_) = (Rp.refN false 65536 (B.drop at_)).bind fun n r => (Rp.manyP f n.toNat r).map fun l => .mk 6 [] 0 l := by
    rw [Rp.refN_up (by decide)]; rfl
  cases hR : Rp.refN false 65536 (B.drop at_) with
  | err c =>
    rw [hR] at hrd hdef
    obtain ⟨hc0, rfl, rfl, rfl⟩ := hrd
    rw [hdef]
    have hcb : (ex0 != 0) = true := by simp [hc0]
    clear hR hdef
    obtain ⟨w1, hw1⟩ : ∃ w1, w.alloc (.cells #[.int .i64 0, .string ⟨#[]⟩, .int .i64 0, .slice none 0 0, .int .i64 0, .int .i64 0] 36) = w1 := ⟨_, rfl⟩
    have hz : Rd6 w1 w.heap.size (.int .i64 0) (.string ⟨#[]⟩) (.int .i64 0) (.slice none 0 0) (.int .i64 0) (.int .i64 0) := by rw [← hw1]; exact Rd6.new w _ _ _ _ _ _
    have hb1 : Below w.heap.size w w1 := by rw [← hw1]; exact (Below.refl _ w).alloc (Nat.le_refl _) _
    have hsz : w1.heap.size = w.heap.size + 1 := by rw [← hw1]; simp
    have HW1 := Lib.hid hw1
    have HZ := Lib.hid hz
    have HB := Lib.hid hb1
    clear hw1 hz hb1
    go_enter Tryd.func45, Tryd.ntmps45
    go_upto_region 1 with (fail)
    rw [show w.alloc (.cells #[.int .i64 0, .string ⟨#[]⟩, .int .i64 0, .slice none 0 0, .int .i64 0, .int .i64 0] 36) = w1 from HW1.out]
    clear HW1
    go_wp2_with fail
    refine (HCALL.out w1).mono ?_
    rintro e w2 ⟨rfl, hb2⟩
    go_upto_region 4 with (fail)
    obtain ⟨w3, hw3⟩ : ∃ w3, w2.alloc (.cells #[.int .i64 0, .string ⟨#[]⟩, .int .i64 0, .slice none 0 0, .int .i64 0, .int .i64 ex0] 36) = w3 := ⟨_, rfl⟩
    have hyy := Rd6.new w2 (.int .i64 0) (.string ⟨#[]⟩) (.int .i64 0) (.slice none 0 0) (.int .i64 0) (.int .i64 ex0)
    have hb3 : Below w2.heap.size w2 w3 := by rw [← hw3]; exact (Below.refl _ w2).alloc (Nat.le_refl _) _
    have hs3 : w3.heap.size = w2.heap.size + 1 := by rw [← hw3]; simp
    rw [hw3] at hyy ⊢
    obtain ⟨y0, y1, y2, y3, y4, y5⟩ := hyy.cells
    have HZ3 := Lib.hid ((HZ.out.later hb2).later hb3)
    have HB3 := Lib.hid ((HB.out.trans (hb2.mono HB.out.size)).trans (hb3.mono (HB.out.trans (hb2.mono HB.out.size)).size))
    have hz2 : w1.heap.size ≤ w2.heap.size := hb2.size
    clear hw3 hb2 hb3
    go_upto_region 5 with (fail)
    obtain ⟨z0, z1, z2, z3, z4, z5⟩ := HZ3.out.cells
    obtain ⟨f0, f1, f2, f3, f4, f5⟩ := HZ3.out.cells'
    clear hyy
    go_wp2
    have hs := HZ3.out.set (.int .i64 0) (.string ⟨#[]⟩) (.int .i64 0) (.slice none 0 0) (.int .i64 0) (.int .i64 ex0)
    have hb := set6_below HB3.out (b := w.heap.size) (by omega) (.int .i64 0) (.string ⟨#[]⟩) (.int .i64 0) (.slice none 0 0) (.int .i64 0) (.int .i64 ex0)
    show bodyPost _ _ _ .ret _ (set6 w3 (w.heap.size) (.int .i64 0) (.string ⟨#[]⟩) (.int .i64 0) (.slice none 0 0) (.int .i64 0) (.int .i64 ex0))
    generalize set6 w3 (w.heap.size) (.int .i64 0) (.string ⟨#[]⟩) (.int .i64 0) (.slice none 0 0) (.int .i64 0) (.int .i64 ex0) = wend at hs hb
    exact bodyPost_ret (results_cell rfl rfl (loadRd hs)) rfl ⟨hb, hc0, rfl⟩
  | ok v t =>
    rw [hR] at hrd hdef
    obtain ⟨hnv, hnx, rfl⟩ := hrd
    subst hnv
    have hdv : Rp.devP 0 ((65536 : Nat) : Int) (B.drop at_) = .ok nn0 t := by rw [← Rp.refN_up (by decide)]; exact hR
    have hdev := Rp.devP_inv hdv
    have hv0 : 0 ≤ nn0 := hdev.2.1
    have hv1 : nn0 ≤ 65536 := hdev.2.2
    obtain ⟨htl, hdt⟩ := suffix_at hdev.1 hi
    obtain ⟨j0, hj0⟩ : ∃ j0 : Nat, nx0 = (j0 : Int) := ⟨nx0.toNat, by omega⟩
    have hj0B : j0 ≤ B.length := by omega
    have hdrj : B.drop j0 = t := by rw [← hdt]; congr 1; omega
    subst hj0
    clear hdv hdev htl hdt hnx hR
    obtain ⟨v, rfl⟩ : ∃ v : Nat, nn0 = (v : Int) := ⟨nn0.toNat, by omega⟩
    have hA : Rp.arrD f (B.drop at_) = (Rp.manyP f v (B.drop j0)).map fun l => .mk 6 [] 0 l := by rw [hdef, hdrj]; rfl
    rw [hA]
    clear hA hdef hdrj
    obtain ⟨w1, hw1⟩ : ∃ w1, w.alloc (.cells #[.int .i64 0, .string ⟨#[]⟩, .int .i64 0, .slice none 0 0, .int .i64 0, .int .i64 0] 36) = w1 := ⟨_, rfl⟩
    have hz : Rd6 w1 w.heap.size (.int .i64 0) (.string ⟨#[]⟩) (.int .i64 0) (.slice none 0 0) (.int .i64 0) (.int .i64 0) := by rw [← hw1]; exact Rd6.new w _ _ _ _ _ _
    have hb1 : Below w.heap.size w w1 := by rw [← hw1]; exact (Below.refl _ w).alloc (Nat.le_refl _) _
    have hsz : w1.heap.size = w.heap.size + 1 := by rw [← hw1]; simp
    have HW1 := Lib.hid hw1
    have HZ := Lib.hid hz
    have HB := Lib.hid hb1
    clear hw1 hz hb1
    go_enter Tryd.func45, Tryd.ntmps45
    go_upto_region 1 with (fail)
    rw [show w.alloc (.cells #[.int .i64 0, .string ⟨#[]⟩, .int .i64 0, .slice none 0 0, .int .i64 0, .int .i64 0] 36) = w1 from HW1.out]
    clear HW1
    go_wp2_with fail
    refine (HCALL.out w1).mono ?_
    rintro e w2 ⟨rfl, hb2⟩
    go_upto_region 4 with (fail)
    obtain ⟨w3, hw3⟩ : ∃ w3, w2.alloc (.cells #[.int .i64 0, .string ⟨#[]⟩, .int .i64 (v : Int), .slice none 0 0, .int .i64 (j0 : Int), .int .i64 0] 36) = w3 := ⟨_, rfl⟩
    have hyy := Rd6.new w2 (.int .i64 0) (.string ⟨#[]⟩) (.int .i64 (v : Int)) (.slice none 0 0) (.int .i64 (j0 : Int)) (.int .i64 0)
    have hb3 : Below w2.heap.size w2 w3 := by rw [← hw3]; exact (Below.refl _ w2).alloc (Nat.le_refl _) _
    have hs3 : w3.heap.size = w2.heap.size + 1 := by rw [← hw3]; simp
    rw [hw3] at hyy ⊢
    obtain ⟨y0, y1, y2, y3, y4, y5⟩ := hyy.cells
    have HZ3 := Lib.hid ((HZ.out.later hb2).later hb3)
    have HB3 := Lib.hid ((HB.out.trans (hb2.mono HB.out.size)).trans (hb3.mono (HB.out.trans (hb2.mono HB.out.size)).size))
    have hz2 : w1.heap.size ≤ w2.heap.size := hb2.size
    clear hw3 hb2 hb3
    have HY3 := Lib.hid hyy
    have hs2 : w.heap.size + 1 ≤ w2.heap.size := by omega
    clear hyy HCALL
    go_upto_region 7 with (fail)
    obtain ⟨w4, hw4⟩ : ∃ w4, w3.alloc (.cells #[.int .i64 6, .string ⟨#[]⟩, .int .i64 0, .slice none 0 0] 24) = w4 := ⟨_, rfl⟩
    have hp4 := World.alloc_heap_new w3 (.cells #[.int .i64 6, .string ⟨#[]⟩, .int .i64 0, .slice none 0 0] 24)
    have hb4 : Below w3.heap.size w3 w4 := by rw [← hw4]; exact (Below.refl _ w3).alloc (Nat.le_refl _) _
    have hs4 : w4.heap.size = w3.heap.size + 1 := by rw [← hw4]; simp
    rw [hw4] at hp4 ⊢
    have HZ4 := Lib.hid (HZ3.out.later hb4)
    have HY4 := Lib.hid (HY3.out.later hb4)
    have HB4 := Lib.hid (HB3.out.trans (hb4.mono HB3.out.size))
    have HP4 := Lib.hid hp4
    obtain ⟨q0, q1, q2, q3, q4, q5⟩ := HY4.out.cells
    clear hw4 hp4 hb4 y0 y1 y2 y3 y4 y5 HZ3 HY3 HB3
    go_wp2_with fail
    go_loopw [9, 10, 11] (fun nx i _ wr => ∃ (q j : Nat) (pre : List Rp.R), q ≤ v ∧ j ≤ B.length ∧ pre.length = q ∧ nx = .int .i64 (j : Int) ∧ i = .int .i64 (q : Int) ∧ Hid (MInv w3.heap.size w4 pre q wr) ∧ Hid (Rp.manyP f v (B.drop j0) = (Rp.manyP f (v - q) (B.drop j)).map (fun l => pre ++ l))) (fun _ i _ _ => v - (intOf i).toNat)
    case atStart =>
      refine ⟨0, j0, [], Nat.zero_le _, hj0B, rfl, rfl, rfl, Lib.hid ⟨none, 0, [], rfl, rfl, HP4.out, World.ownsRow_nil _ _ _ _, fun x h => by simp at h, Keeps.refl _ _⟩, Lib.hid ?_⟩
      rw [Nat.sub_zero]
      cases Rp.manyP f v (B.drop j0) <;> rfl
    case round =>
      clear q0 q1 q2 q3 q4 q5
      obtain ⟨q, j, pre, hq, hj, hpl, rfl, rfl, HM, HQ⟩ := hrel
      obtain ⟨a, c, xs, h1, h2, h3, h4, h5, h6⟩ := HM.out
      have hzr : w4.heap.size ≤ wr.heap.size := h6.size
      have hyr : Rd6 wr w2.heap.size (.int .i64 0) (.string ⟨#[]⟩) (.int .i64 (v : Int)) (.slice none 0 0) (.int .i64 (j0 : Int)) (.int .i64 0) := h6.heap HY4.out (by omega)
      have hzz : Rd6 wr w.heap.size (.int .i64 0) (.string ⟨#[]⟩) (.int .i64 0) (.slice none 0 0) (.int .i64 0) (.int .i64 0) := h6.heap HZ4.out (by omega)
      have hbr : Below w.heap.size w wr := HB4.out.trans (h6.below HB4.out.size fun k hk => by omega)
      obtain ⟨q0, q1, q2, q3, q4, q5⟩ := hyr.cells
      have HZR := Lib.hid hzz
      have HBR := Lib.hid hbr
      have k0 : (0 : Int) ≤ (q : Int) := by omega
      have wq1 : IntKind.i64.wrap ((q : Int) + 1) = (q : Int) + 1 := IntWalk.i64_in _ (by omega)
      clear hzz hbr hyr HM
      by_cases hgo : q < v
      · have k1 : (q : Int) < (v : Int) := by omega
        have hcl := HF.out j hj wr
        obtain ⟨m, hm⟩ : ∃ m, v - q = m + 1 := ⟨v - q - 1, by omega⟩
        have hQ := HQ.out
        rw [hm] at hQ
        cases hfj : f (B.drop j) with
        | err ce =>
          rw [hfj] at hcl
          have HR : Hid (Rp.manyP f v (B.drop j0) = .err ce) := Lib.hid (by rw [hQ, Rp.manyP, hfj]; rfl)
          have HCL := Lib.hid hcl
          clear hcl hQ HQ hfj h1 h2 h3 h4 h5 h6
          go_wp2_with fail
          refine HCL.out.mono ?_
          rintro e wc ⟨hbc, hc0, rfl⟩
          unfold badV
          have hcb : (ce != 0) = true := by simp [hc0]
          go_upto_region 12 with (fail)
          obtain ⟨wx, hwx⟩ : ∃ wx, wc.alloc (.cells #[.int .i64 0, .string ⟨#[]⟩, .int .i64 0, .slice none 0 0, .int .i64 0, .int .i64 ce] 36) = wx := ⟨_, rfl⟩
          have hxx := Rd6.new wc (.int .i64 0) (.string ⟨#[]⟩) (.int .i64 0) (.slice none 0 0) (.int .i64 0) (.int .i64 ce)
          have hbx : Below wc.heap.size wc wx := by rw [← hwx]; exact (Below.refl _ wc).alloc (Nat.le_refl _) _
          rw [hwx] at hxx ⊢
          obtain ⟨v0, v1, v2, v3, v4, v5⟩ := hxx.cells
          have HZX := Lib.hid ((HZR.out.later hbc).later hbx)
          have HBX := Lib.hid ((HBR.out.trans (hbc.mono HBR.out.size)).trans (hbx.mono (HBR.out.trans (hbc.mono HBR.out.size)).size))
          clear hwx hxx hbx hbc q0 q1 q2 q3 q4 q5
          go_upto_region 13 with (fail)
          go_wp2_with fail
          refine (bad_any ce wx).mono ?_
          rintro e wb ⟨rfl, hbb⟩
          unfold badV
          have HZb := Lib.hid (HZX.out.later hbb)
          have HBb := Lib.hid (HBX.out.trans (hbb.mono HBX.out.size))
          obtain ⟨z0, z1, z2, z3, z4, z5⟩ := HZb.out.cells
          obtain ⟨f0, f1, f2, f3, f4, f5⟩ := HZb.out.cells'
          clear hbb
          go_wp2
          have hs := HZb.out.set (.int .i64 0) (.string ⟨#[]⟩) (.int .i64 0) (.slice none 0 0) (.int .i64 0) (.int .i64 ce)
          have hb := set6_below HBb.out (b := w.heap.size) (by omega) (.int .i64 0) (.string ⟨#[]⟩) (.int .i64 0) (.slice none 0 0) (.int .i64 0) (.int .i64 ce)
          show bodyPost _ _ _ .ret _ (set6 wb (w.heap.size) (.int .i64 0) (.string ⟨#[]⟩) (.int .i64 0) (.slice none 0 0) (.int .i64 0) (.int .i64 ce))
          generalize set6 wb (w.heap.size) (.int .i64 0) (.string ⟨#[]⟩) (.int .i64 0) (.slice none 0 0) (.int .i64 0) (.int .i64 ce) = wend at hs hb
          exact bodyPost_ret (results_cell rfl rfl (loadRd hs)) rfl ⟨hb, by rw [HR.out]; exact ⟨hc0, rfl⟩⟩
        | ok r t' =>
          rw [hfj] at hcl
          have hin := HINV.out _ _ _ hfj
          obtain ⟨htl, hdt⟩ := suffix_at hin hj
          obtain ⟨j2, hj2⟩ : ∃ j2 : Nat, B.length - t'.length = j2 := ⟨_, rfl⟩
          have hjI : (B.length : Int) - (t'.length : Int) = (j2 : Int) := by omega
          have HQ2 : Hid (Rp.manyP f v (B.drop j0) = (Rp.manyP f (v - (q + 1)) (B.drop j2)).map (fun l => (pre ++ [r]) ++ l)) := Lib.hid (by
            rw [hQ, Rp.manyP, hfj, show v - (q + 1) = m by omega, ← hj2, hdt]
            show ((Rp.manyP f m t').map _).map _ = _
            cases Rp.manyP f m t' with
            | err c => rfl
            | ok l u => simp [Rp.Out.map])
          have hj2B : j2 ≤ B.length := by omega
          have HCL := Lib.hid hcl
          have H1 := Lib.hid h1
          have H2 := Lib.hid h2
          have H3 := Lib.hid h3
          have H4 := Lib.hid h4
          have H5 := Lib.hid h5
          have H6 := Lib.hid h6
          have HPL := Lib.hid hpl
          clear hcl hQ HQ hfj hin htl hdt hj2 h1 h2 h3 h4 h5 h6 hpl
          go_wp2_with fail
          refine HCL.out.mono ?_
          rintro e wc ⟨hbc, a1, c1, rfl, hrep⟩
          rw [hjI]
          obtain ⟨-, -, -, hfit, -⟩ := hrep.parts
          go_upto_region 12 with (fail)
          obtain ⟨wx, hwx⟩ : ∃ wx, wc.alloc (.cells #[.int .i64 r.k, .string ⟨r.s.toArray⟩, .int .i64 r.n, .slice a1 r.l.length c1, .int .i64 (j2 : Int), .int .i64 0] 36) = wx := ⟨_, rfl⟩
          have hxx := Rd6.new wc (.int .i64 r.k) (.string ⟨r.s.toArray⟩) (.int .i64 r.n) (.slice a1 r.l.length c1) (.int .i64 (j2 : Int)) (.int .i64 0)
          have hbx : Below wc.heap.size wc wx := by rw [← hwx]; exact (Below.refl _ wc).alloc (Nat.le_refl _) _
          have hsx : wx.heap.size = wc.heap.size + 1 := by rw [← hwx]; simp
          rw [hwx] at hxx ⊢
          obtain ⟨v0, v1, v2, v3, v4, v5⟩ := hxx.cells
          have hsc : wr.heap.size ≤ wc.heap.size := hbc.size
          have hbrx : Below wr.heap.size wr wx := hbc.trans (hbx.mono hsc)
          have HB1 := Lib.hid (below_undrew hbrx)
          have HREP := Lib.hid (hrep.later hbx)
          have hpx := (hbrx.block w3.heap.size (by omega)).trans H3.out
          rw [hs3] at hpx
          obtain ⟨p0, p1, p2, p3, g0, g1, g2, g3⟩ := cells_four' hpx
          have HO2 := Lib.hid (owns_kept (S := fun _ => True) H4.out (Keeps.of_below hbrx fun _ h _ => h) fun _ _ => trivial)
          have HXX := Lib.hid hxx
          have HSX := Lib.hid hsx
          obtain ⟨i24, hi24, hi24z, hi24s, hi24b⟩ := info_parts info24
          clear hwx hxx hbx hbrx hpx hrep hbc hsx q0 q1 q2 q3 q4 q5
          go_upto_region 14 with (fail)
          go_wp2_with (at_builtin; refine wpList_append_lies _ rfl (.tmp 44) (.tmp 47) 22 rfl w4.heap.size 24 i24 _ 4 56 Tryd.underlying22 hi24 hi24z hi24s hi24b rfl (by decide) (.slice a q c) q (flat4 xs) rfl (HO2.out.alloc _) ⟨wx.heap.size, 0, none⟩ 1 1 [.int .i64 r.k, .string ⟨r.s.toArray⟩, .int .i64 r.n, .slice a1 r.l.length c1] rfl rfl (four_news wx _ _ _ _) ?n3 (by decide) ?n4 ?n5 ?n6 (wx.heap.size + 1) ?n7 ?_)
          case n3 => intro u hu; simp at hu; rcases hu with rfl | rfl | rfl | rfl <;> rfl
          case n4 => unfold maxLen; omega
          case n5 => omega
          case n6 => have := HSX.out; simp; omega
          case n7 => simp
          intro g cap' w6 hown hgrow hat hlt6
          have hsx := HSX.out
          have hfar : ∀ k, k < w4.heap.size → some k ≠ (Value.slice a q c).ownBlock := fun k hk e => by have := (H4.out.lt _ e.symm).1; omega
          have hp6 := (mk_kept HB1.out hgrow).heap H3.out (hfar w3.heap.size (by omega))
          rw [hs3] at hp6
          obtain ⟨p0', p1', p2', p3', g0', g1', g2', g3'⟩ := cells_four' hp6
          have hownlt : ∀ k, (Value.slice a q c).ownBlock = some k → k < wr.heap.size := fun k e => (H4.out.lt _ e).2
          have hx6 := (hgrow.cell_far ⟨wc.heap.size, 4, none⟩ (by simp; omega) (fun e => by have := hownlt _ e.symm; simp only at this; omega)).trans ((World.cell?_alloc_lt wx (.cells #[.int .i64 r.k, .string ⟨r.s.toArray⟩, .int .i64 r.n, .slice a1 r.l.length c1] 24) ⟨wc.heap.size, 4, none⟩ (by simp; omega)).trans v4)
          have HO3 := Lib.hid hown
          have HG3 := Lib.hid hgrow
          have HA3 := Lib.hid hat
          clear hown hgrow hat hp6 hfar hsx p0 p1 p2 p3 g0 g1 g2 g3 v0 v1 v2 v3 v4 v5 hownlt
          go_upto_region 15 with (fail)
          obtain ⟨w7, hw7⟩ : ∃ w7, w6.setCell ⟨w2.heap.size + 1, 3, none⟩ (.slice (some ⟨g, 0, none⟩) (q + 1) cap') = w7 := ⟨_, rfl⟩
          rw [hw7]
          have hx7 : w7.cell? ⟨wc.heap.size, 4, none⟩ = some (.int .i64 (j2 : Int)) := by
            rw [← hw7, World.cell?_setCell_other _ _ _ _ (by first | (simp; done) | (simp; omega))]
            exact hx6
          have hstep : MInv w3.heap.size w4 (pre ++ [r]) (q + 1) w7 := by
            rw [← hw7, ← hs3]
            exact MInv.step (l := pre ++ [r]) (x := ⟨r.k, ⟨r.s.toArray⟩, r.n, a1, r.l.length, c1, 0, r⟩) (by omega) H1.out (by rw [H2.out, ← HPL.out, List.take_length, List.take_left]) (by rw [List.length_append, HPL.out]; simp) (by simp [← HPL.out]) H3.out H4.out H5.out H6.out HB1.out HREP.out (by rw [hs4, hs3]; exact HO3.out) HG3.out (by rw [World.size_alloc]; exact HA3.out)
          have HST := Lib.hid hstep
          clear hw7 hx6 hstep p0' p1' p2' p3' g0' g1' g2' g3'
          go_wp2_with fail
          go_roundw
          case rel => exact ⟨q + 1, j2, pre ++ [r], by omega, hj2B, by rw [List.length_append, HPL.out]; rfl, rfl, by go_num, HST, HQ2⟩
          case measure => simp [intOf]; omega
      · obtain rfl : q = v := by omega
        have hnlt : ¬ (q : Int) < (q : Int) := by omega
        have hQ := HQ.out
        rw [Nat.sub_self, Rp.manyP] at hQ
        obtain ⟨a', c', hv, hrep⟩ := row_rep (xs := xs) (by rw [h1]; exact h4) (by omega) (fun x hx => (h5 x hx).mono fun k h _ => h.1)
        rw [h1, h2, ← hpl, List.take_length] at hrep
        rw [h1] at hv
        simp only [Value.slice.injEq, true_and] at hv
        obtain ⟨rfl, rfl⟩ := hv
        have HR : Hid (Rp.manyP f pre.length (B.drop j0) = .ok pre (B.drop j)) := Lib.hid (by rw [hpl, hQ]; simp [Rp.Out.map])
        have hnx : (B.length : Int) - ((B.drop j).length : Int) = (j : Int) := by rw [List.length_drop]; omega
        have HNX := Lib.hid hnx
        rw [hs3] at h3
        obtain ⟨p0, p1, p2, p3, g0, g1, g2, g3⟩ := cells_four' h3
        obtain ⟨z0, z1, z2, z3, z4, z5⟩ := HZR.out.cells
        obtain ⟨f0, f1, f2, f3, f4, f5⟩ := HZR.out.cells'
        have HREP := Lib.hid hrep
        have HPL := Lib.hid hpl
        have hs4w : w.heap.size < w4.heap.size := by omega
        clear hQ HQ h1 h2 h3 h4 h5 h6 hrep hnx hpl
        go_wp2
        have hrep2 : Rep (fun k => w.heap.size ≤ k) (set6 wr w.heap.size (.int .i64 6) (.string ⟨#[]⟩) (.int .i64 0) (.slice a q c) (.int .i64 (j : Int)) (.int .i64 0)) (.mk 6 [] 0 pre) (.agg #[.int .i64 6, .string ⟨#[]⟩, .int .i64 0, .slice a pre.length c]) :=
          Rep.keeps (S := fun k => w4.heap.size ≤ k) (((((((Keeps.refl _ wr).setCell (p := ⟨w.heap.size, 0, none⟩) (.inr (by simp only; omega)) _).setCell (p := ⟨w.heap.size, 1, none⟩) (.inr (by simp only; omega)) _).setCell (p := ⟨w.heap.size, 2, none⟩) (.inr (by simp only; omega)) _).setCell (p := ⟨w.heap.size, 3, none⟩) (.inr (by simp only; omega)) _).setCell (p := ⟨w.heap.size, 4, none⟩) (.inr (by simp only; omega)) _).setCell (p := ⟨w.heap.size, 5, none⟩) (.inr (by simp only; omega)) _) (fun k h _ => by omega) _ _ HREP.out
        have hs4w2 := hs4w
        have hs := HZR.out.set (.int .i64 6) (.string ⟨#[]⟩) (.int .i64 0) (.slice a q c) (.int .i64 (j : Int)) (.int .i64 0)
        have hb := set6_below HBR.out (b := w.heap.size) (by omega) (.int .i64 6) (.string ⟨#[]⟩) (.int .i64 0) (.slice a q c) (.int .i64 (j : Int)) (.int .i64 0)
        show bodyPost _ _ _ .ret _ (set6 wr (w.heap.size) (.int .i64 6) (.string ⟨#[]⟩) (.int .i64 0) (.slice a q c) (.int .i64 (j : Int)) (.int .i64 0))
        generalize set6 wr (w.heap.size) (.int .i64 6) (.string ⟨#[]⟩) (.int .i64 0) (.slice a q c) (.int .i64 (j : Int)) (.int .i64 0) = wend at hs hb hrep2
        exact bodyPost_ret (results_cell rfl rfl (loadRd hs)) rfl ⟨hb, by rw [← HPL.out, HR.out]; exact ⟨a, c, by simp only [HNX.out, Rp.R.k, Rp.R.s, Rp.R.n, Rp.R.l, HPL.out], hrep2⟩⟩
end Go.Proofs.YtcjbfgkmpoebgaaDoor
