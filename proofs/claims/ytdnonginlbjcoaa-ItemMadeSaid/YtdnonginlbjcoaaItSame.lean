/- The contracts of item.Same and of the reference's SameItem. -/
import Derived.Test.YtdnonginlbjcoaaItEqual
import Derived.Test.YtdnonginlbjcoaaItTexts
namespace Go.Proofs.Ytdnonginlbjcoaa
open Go.RowKit Go.Shelf

set_option maxRecDepth 100000 in
set_option maxHeartbeats 4000000 in
theorem same_any (ka kb xa xb : Int) (sa sb : List UInt8) (aF bF : Option Addr) (cF dF : Nat) (fa fb : List (List UInt8 × List UInt8)) (aL bL : Option Addr) (cL dL : Nat) (wa wb : List (List UInt8)) (w : World) (hFa : Fds w aF cF fa) (hFb : Fds w bF dF fb) (hLa : Wds w aL cL wa) (hLb : Wds w bL dL wb) :
    Calls Try.prog 16 #[itv ka sa aF fa.length cF aL wa.length cL xa, itv kb sb bF fb.length dF bL wb.length dL xb] w fun e w' => e = .returned (.bool (It.sameB ⟨ka, sa, fa, wa, xa⟩ ⟨kb, sb, fb, wb, xb⟩)) ∧ Below w.heap.size w w' := by
  have hfc := fun W (h : Below w.heap.size w W) => eqF_any aF bF cF dF fa fb W (hFa.later h) (hFb.later h)
  have hlc := fun W (h : Below w.heap.size w W) => eqW_any aL bL cL dL wa wb W (hLa.later h) (hLb.later h)
  by_cases hk : ka = kb
  rotate_left
  · rw [show It.sameB ⟨ka, sa, fa, wa, xa⟩ ⟨kb, sb, fb, wb, xb⟩ = false by simp [It.sameB, hk]]
    have ek : (ka == kb) = false := beq_eq_false_iff_ne.2 hk
    have HF := Lib.hid hfc
    have HL := Lib.hid hlc
    clear hfc hlc hFa hFb hLa hLb
    generalize fa.length = nFa at *
    generalize fb.length = nFb at *
    generalize wa.length = nLa at *
    generalize wb.length = nLb at *
    unfold itv
    go_enter Try.func16, Try.ntmps16
    go_wp2
    go_ret
    exact ⟨rfl, ((Below.refl _ w).alloc (Nat.le_refl _) _).alloc (by simp) _⟩
  subst hk
  by_cases hs : sa = sb
  rotate_left
  · rw [show It.sameB ⟨ka, sa, fa, wa, xa⟩ ⟨ka, sb, fb, wb, xb⟩ = false by simp [It.sameB, hs]]
    have es : (sa == sb) = false := beq_eq_false_iff_ne.2 hs
    have HF := Lib.hid hfc
    have HL := Lib.hid hlc
    clear hfc hlc hFa hFb hLa hLb
    generalize fa.length = nFa at *
    generalize fb.length = nFb at *
    generalize wa.length = nLa at *
    generalize wb.length = nLb at *
    unfold itv
    go_enter Try.func16, Try.ntmps16
    go_wp2
    go_ret
    exact ⟨rfl, ((Below.refl _ w).alloc (Nat.le_refl _) _).alloc (by simp) _⟩
  subst hs
  by_cases hf : fa = fb
  rotate_left
  · rw [show It.sameB ⟨ka, sa, fa, wa, xa⟩ ⟨ka, sa, fb, wb, xb⟩ = false by simp [It.sameB, hf]]
    rw [decide_eq_false hf] at hfc
    have HF := Lib.hid hfc
    have HL := Lib.hid hlc
    clear hfc hlc hFa hFb hLa hLb
    generalize fa.length = nFa at *
    generalize fb.length = nFb at *
    generalize wa.length = nLa at *
    generalize wb.length = nLb at *
    unfold itv
    go_enter Try.func16, Try.ntmps16
    go_wp2_with fail
    refine (HF.out _ (((Below.refl _ w).alloc (Nat.le_refl _) _).alloc (by simp) _)).mono ?_
    rintro e w1 ⟨rfl, hb⟩
    have HB1 : Hid (Below w.heap.size w w1) := Lib.hid ((((Below.refl _ w).alloc (Nat.le_refl _) _).alloc (by simp) _).trans (hb.mono (by simp; omega)))
    obtain ⟨hcl, -⟩ := bcell hb
    have hs1 := hb.size
    clear hb
    simp only [World.size_alloc] at hcl hs1
    have hz0 : w.heap.size < w1.heap.size := by omega
    have hz1 : w.heap.size + 1 < w1.heap.size := by omega
    go_wp2
    go_ret
    exact ⟨rfl, HB1.out⟩
  rw [decide_eq_true hf] at hfc
  by_cases hl : wa = wb
  rotate_left
  · rw [show It.sameB ⟨ka, sa, fa, wa, xa⟩ ⟨ka, sa, fb, wb, xb⟩ = false by simp [It.sameB, hl]]
    rw [decide_eq_false hl] at hlc
    have HF := Lib.hid hfc
    have HL := Lib.hid hlc
    clear hfc hlc hFa hFb hLa hLb
    generalize fa.length = nFa at *
    generalize fb.length = nFb at *
    generalize wa.length = nLa at *
    generalize wb.length = nLb at *
    unfold itv
    go_enter Try.func16, Try.ntmps16
    go_wp2_with fail
    refine (HF.out _ (((Below.refl _ w).alloc (Nat.le_refl _) _).alloc (by simp) _)).mono ?_
    rintro e w1 ⟨rfl, hb⟩
    have HB1 : Hid (Below w.heap.size w w1) := Lib.hid ((((Below.refl _ w).alloc (Nat.le_refl _) _).alloc (by simp) _).trans (hb.mono (by simp; omega)))
    obtain ⟨hcl, -⟩ := bcell hb
    have hs1 := hb.size
    clear hb
    simp only [World.size_alloc] at hcl hs1
    have hz0 : w.heap.size < w1.heap.size := by omega
    have hz1 : w.heap.size + 1 < w1.heap.size := by omega
    go_wp2_with fail
    refine (HL.out _ HB1.out).mono ?_
    rintro e w2 ⟨rfl, hb⟩
    have HB2 : Hid (Below w.heap.size w w2) := Lib.hid (HB1.out.trans (hb.mono (by omega)))
    obtain ⟨hcl2, -⟩ := bcell hb
    clear hb
    go_wp2
    go_ret
    exact ⟨rfl, HB2.out⟩
  rw [decide_eq_true hl] at hlc
  by_cases hx : xa = xb
  rotate_left
  · rw [show It.sameB ⟨ka, sa, fa, wa, xa⟩ ⟨ka, sa, fb, wb, xb⟩ = false by simp [It.sameB, hx]]
    have ex : (xa == xb) = false := beq_eq_false_iff_ne.2 hx
    have HF := Lib.hid hfc
    have HL := Lib.hid hlc
    clear hfc hlc hFa hFb hLa hLb
    generalize fa.length = nFa at *
    generalize fb.length = nFb at *
    generalize wa.length = nLa at *
    generalize wb.length = nLb at *
    unfold itv
    go_enter Try.func16, Try.ntmps16
    go_wp2_with fail
    refine (HF.out _ (((Below.refl _ w).alloc (Nat.le_refl _) _).alloc (by simp) _)).mono ?_
    rintro e w1 ⟨rfl, hb⟩
    have HB1 : Hid (Below w.heap.size w w1) := Lib.hid ((((Below.refl _ w).alloc (Nat.le_refl _) _).alloc (by simp) _).trans (hb.mono (by simp; omega)))
    obtain ⟨hcl, -⟩ := bcell hb
    have hs1 := hb.size
    clear hb
    simp only [World.size_alloc] at hcl hs1
    have hz0 : w.heap.size < w1.heap.size := by omega
    have hz1 : w.heap.size + 1 < w1.heap.size := by omega
    go_wp2_with fail
    refine (HL.out _ HB1.out).mono ?_
    rintro e w2 ⟨rfl, hb⟩
    have HB2 : Hid (Below w.heap.size w w2) := Lib.hid (HB1.out.trans (hb.mono (by omega)))
    obtain ⟨hcl2, -⟩ := bcell hb
    clear hb
    go_wp2
    go_ret
    exact ⟨rfl, HB2.out⟩
  subst hx
  rw [show It.sameB ⟨ka, sa, fa, wa, xa⟩ ⟨ka, sa, fb, wb, xa⟩ = true by simp [It.sameB, hf, hl]]
  have HF := Lib.hid hfc
  have HL := Lib.hid hlc
  clear hfc hlc hFa hFb hLa hLb
  generalize fa.length = nFa at *
  generalize fb.length = nFb at *
  generalize wa.length = nLa at *
  generalize wb.length = nLb at *
  unfold itv
  go_enter Try.func16, Try.ntmps16
  go_wp2_with fail
  refine (HF.out _ (((Below.refl _ w).alloc (Nat.le_refl _) _).alloc (by simp) _)).mono ?_
  rintro e w1 ⟨rfl, hb⟩
  have HB1 : Hid (Below w.heap.size w w1) := Lib.hid ((((Below.refl _ w).alloc (Nat.le_refl _) _).alloc (by simp) _).trans (hb.mono (by simp; omega)))
  obtain ⟨hcl, -⟩ := bcell hb
  have hs1 := hb.size
  clear hb
  simp only [World.size_alloc] at hcl hs1
  have hz0 : w.heap.size < w1.heap.size := by omega
  have hz1 : w.heap.size + 1 < w1.heap.size := by omega
  go_wp2_with fail
  refine (HL.out _ HB1.out).mono ?_
  rintro e w2 ⟨rfl, hb⟩
  have HB2 : Hid (Below w.heap.size w w2) := Lib.hid (HB1.out.trans (hb.mono (by omega)))
  obtain ⟨hcl2, -⟩ := bcell hb
  clear hb
  go_wp2
  go_ret
  exact ⟨rfl, HB2.out⟩

set_option maxRecDepth 100000 in
set_option maxHeartbeats 4000000 in
theorem refSame_any (ka kb xa xb : Int) (sa sb : List UInt8) (aF bF : Option Addr) (cF dF : Nat) (fa fb : List (List UInt8 × List UInt8)) (aL bL : Option Addr) (cL dL : Nat) (wa wb : List (List UInt8)) (w : World) (hFa : Fds w aF cF fa) (hFb : Fds w bF dF fb) (hLa : Wds w aL cL wa) (hLb : Wds w bL dL wb) :
    Calls Try.prog 17 #[itv ka sa aF fa.length cF aL wa.length cL xa, itv kb sb bF fb.length dF bL wb.length dL xb] w fun e w' => e = .returned (.bool (It.sameB ⟨ka, sa, fa, wa, xa⟩ ⟨kb, sb, fb, wb, xb⟩)) ∧ Below w.heap.size w w' := by
  have hfc := fun W (h : Below w.heap.size w W) => sameF_any aF bF cF dF fa fb W (hFa.later h) (hFb.later h)
  have hlc := fun W (h : Below w.heap.size w W) => texts_any aL bL cL dL wa wb W (hLa.later h) (hLb.later h)
  by_cases hk : ka = kb
  rotate_left
  · rw [show It.sameB ⟨ka, sa, fa, wa, xa⟩ ⟨kb, sb, fb, wb, xb⟩ = false by simp [It.sameB, hk]]
    have ek : (ka == kb) = false := beq_eq_false_iff_ne.2 hk
    have HF := Lib.hid hfc
    have HL := Lib.hid hlc
    clear hfc hlc hFa hFb hLa hLb
    generalize fa.length = nFa at *
    generalize fb.length = nFb at *
    generalize wa.length = nLa at *
    generalize wb.length = nLb at *
    unfold itv
    go_enter Try.func17, Try.ntmps17
    go_wp2
    go_ret
    exact ⟨rfl, ((Below.refl _ w).alloc (Nat.le_refl _) _).alloc (by simp) _⟩
  subst hk
  by_cases hs : sa = sb
  rotate_left
  · rw [show It.sameB ⟨ka, sa, fa, wa, xa⟩ ⟨ka, sb, fb, wb, xb⟩ = false by simp [It.sameB, hs]]
    have es : (sa == sb) = false := beq_eq_false_iff_ne.2 hs
    have HF := Lib.hid hfc
    have HL := Lib.hid hlc
    clear hfc hlc hFa hFb hLa hLb
    generalize fa.length = nFa at *
    generalize fb.length = nFb at *
    generalize wa.length = nLa at *
    generalize wb.length = nLb at *
    unfold itv
    go_enter Try.func17, Try.ntmps17
    go_wp2
    go_ret
    exact ⟨rfl, ((Below.refl _ w).alloc (Nat.le_refl _) _).alloc (by simp) _⟩
  subst hs
  by_cases hx : xa = xb
  rotate_left
  · rw [show It.sameB ⟨ka, sa, fa, wa, xa⟩ ⟨ka, sa, fb, wb, xb⟩ = false by simp [It.sameB, hx]]
    have ex : (xa == xb) = false := beq_eq_false_iff_ne.2 hx
    have HF := Lib.hid hfc
    have HL := Lib.hid hlc
    clear hfc hlc hFa hFb hLa hLb
    generalize fa.length = nFa at *
    generalize fb.length = nFb at *
    generalize wa.length = nLa at *
    generalize wb.length = nLb at *
    unfold itv
    go_enter Try.func17, Try.ntmps17
    go_wp2
    go_ret
    exact ⟨rfl, ((Below.refl _ w).alloc (Nat.le_refl _) _).alloc (by simp) _⟩
  subst hx
  by_cases hf : fa = fb
  rotate_left
  · rw [show It.sameB ⟨ka, sa, fa, wa, xa⟩ ⟨ka, sa, fb, wb, xa⟩ = false by simp [It.sameB, hf]]
    rw [decide_eq_false hf] at hfc
    have HF := Lib.hid hfc
    have HL := Lib.hid hlc
    clear hfc hlc hFa hFb hLa hLb
    generalize fa.length = nFa at *
    generalize fb.length = nFb at *
    generalize wa.length = nLa at *
    generalize wb.length = nLb at *
    unfold itv
    go_enter Try.func17, Try.ntmps17
    go_wp2_with fail
    refine (HF.out _ (((Below.refl _ w).alloc (Nat.le_refl _) _).alloc (by simp) _)).mono ?_
    rintro e w1 ⟨rfl, hb⟩
    have HB1 : Hid (Below w.heap.size w w1) := Lib.hid ((((Below.refl _ w).alloc (Nat.le_refl _) _).alloc (by simp) _).trans (hb.mono (by simp; omega)))
    obtain ⟨hcl, -⟩ := bcell hb
    have hs1 := hb.size
    clear hb
    simp only [World.size_alloc] at hcl hs1
    have hz0 : w.heap.size < w1.heap.size := by omega
    have hz1 : w.heap.size + 1 < w1.heap.size := by omega
    go_wp2
    go_ret
    exact ⟨rfl, HB1.out⟩
  rw [decide_eq_true hf] at hfc
  by_cases hl : wa = wb
  rotate_left
  · rw [show It.sameB ⟨ka, sa, fa, wa, xa⟩ ⟨ka, sa, fb, wb, xa⟩ = false by simp [It.sameB, hl]]
    rw [decide_eq_false hl] at hlc
    have HF := Lib.hid hfc
    have HL := Lib.hid hlc
    clear hfc hlc hFa hFb hLa hLb
    generalize fa.length = nFa at *
    generalize fb.length = nFb at *
    generalize wa.length = nLa at *
    generalize wb.length = nLb at *
    unfold itv
    go_enter Try.func17, Try.ntmps17
    go_wp2_with fail
    refine (HF.out _ (((Below.refl _ w).alloc (Nat.le_refl _) _).alloc (by simp) _)).mono ?_
    rintro e w1 ⟨rfl, hb⟩
    have HB1 : Hid (Below w.heap.size w w1) := Lib.hid ((((Below.refl _ w).alloc (Nat.le_refl _) _).alloc (by simp) _).trans (hb.mono (by simp; omega)))
    obtain ⟨hcl, -⟩ := bcell hb
    have hs1 := hb.size
    clear hb
    simp only [World.size_alloc] at hcl hs1
    have hz0 : w.heap.size < w1.heap.size := by omega
    have hz1 : w.heap.size + 1 < w1.heap.size := by omega
    go_wp2_with fail
    refine (HL.out _ HB1.out).mono ?_
    rintro e w2 ⟨rfl, hb⟩
    have HB2 : Hid (Below w.heap.size w w2) := Lib.hid (HB1.out.trans (hb.mono (by omega)))
    obtain ⟨hcl2, -⟩ := bcell hb
    clear hb
    go_wp2
    go_ret
    exact ⟨rfl, HB2.out⟩
  rw [decide_eq_true hl] at hlc
  rw [show It.sameB ⟨ka, sa, fa, wa, xa⟩ ⟨ka, sa, fb, wb, xa⟩ = true by simp [It.sameB, hf, hl]]
  have HF := Lib.hid hfc
  have HL := Lib.hid hlc
  clear hfc hlc hFa hFb hLa hLb
  generalize fa.length = nFa at *
  generalize fb.length = nFb at *
  generalize wa.length = nLa at *
  generalize wb.length = nLb at *
  unfold itv
  go_enter Try.func17, Try.ntmps17
  go_wp2_with fail
  refine (HF.out _ (((Below.refl _ w).alloc (Nat.le_refl _) _).alloc (by simp) _)).mono ?_
  rintro e w1 ⟨rfl, hb⟩
  have HB1 : Hid (Below w.heap.size w w1) := Lib.hid ((((Below.refl _ w).alloc (Nat.le_refl _) _).alloc (by simp) _).trans (hb.mono (by simp; omega)))
  obtain ⟨hcl, -⟩ := bcell hb
  have hs1 := hb.size
  clear hb
  simp only [World.size_alloc] at hcl hs1
  have hz0 : w.heap.size < w1.heap.size := by omega
  have hz1 : w.heap.size + 1 < w1.heap.size := by omega
  go_wp2_with fail
  refine (HL.out _ HB1.out).mono ?_
  rintro e w2 ⟨rfl, hb⟩
  have HB2 : Hid (Below w.heap.size w w2) := Lib.hid (HB1.out.trans (hb.mono (by omega)))
  obtain ⟨hcl2, -⟩ := bcell hb
  clear hb
  go_wp2
  go_ret
  exact ⟨rfl, HB2.out⟩

end Go.Proofs.Ytdnonginlbjcoaa
