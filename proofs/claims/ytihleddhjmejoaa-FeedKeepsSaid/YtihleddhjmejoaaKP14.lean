/- Whether two lists of words, or of fields, are one: slices.Equal, and the reference's Texts and SameFields. The contracts of item.Same and of the reference's SameItem. Items by numbers: what the statements' own Make makes, and that it is valid. No program in it. -/
import Derived.Test.YtihleddhjmejoaaKP04
import Derived.BigQuiet
import Derived.Test.YtihleddhjmejoaaKP11
import Derived.Test.YtihleddhjmejoaaKP01
import Derived.Test.YtihleddhjmejoaaKP06
namespace Go.Proofs.Ytihleddhjmejoaa
open Go.RowKit Go.Shelf

set_option maxRecDepth 100000 in
set_option maxHeartbeats 2000000 in
theorem eqW_len (a b : Option Addr) (n m c d : Nat) (w : World) (h : n ≠ m) (hn : n ≤ 9223372036854775807) (hm : m ≤ 9223372036854775807) :
    Calls Try.prog 81 #[.slice a n c, .slice b m d] w fun e W' => e = .returned (.bool false) ∧ Below w.heap.size w W' := by
  have h1 : ((n : Int) != (m : Int)) = true := by rw [bne_iff_ne]; omega
  have h2 : (n : Int) ≤ 9223372036854775807 := by omega
  have h3 : (m : Int) ≤ 9223372036854775807 := by omega
  go_enter Try.func81, Try.ntmps81
  go_wp2
  go_ret
  exact ⟨rfl, Below.refl _ _⟩

set_option maxRecDepth 100000 in
set_option maxHeartbeats 2000000 in
theorem eqW_same (a b : Option Addr) (c d : Nat) (ws ys : List (List UInt8)) (w : World) (hl : ws.length = ys.length) (hA : Wds w a c ws) (hB : Wds w b d ys) :
    Calls Try.prog 81 #[.slice a ws.length c, .slice b ws.length d] w fun e W' => e = .returned (.bool (decide (ws = ys))) ∧ Below w.heap.size w W' := by
  have hn : ws.length ≤ 9223372036854775807 := Nat.le_trans hA.1 hA.2.1
  have hnI : (ws.length : Int) ≤ 9223372036854775807 := by omega
  have HA := Lib.hid hA
  have HB := Lib.hid hB
  have HL := Lib.hid hl
  have h1 : ((ws.length : Int) != (ws.length : Int)) = false := by simp
  clear hA hB hl
  go_enter Try.func81, Try.ntmps81
  go_wp2
  go_loopw [4, 13] (fun r i wr => ∃ k : Nat, k ≤ ws.length ∧ r = .bool false ∧ i = .int .i64 k ∧ Hid (∀ j, j < k → ws.getD j [] = ys.getD j []) ∧ Hid (Below w.heap.size w wr)) (fun _ i _ => ws.length - (intOf i).toNat)
  case atStart => exact ⟨0, Nat.zero_le _, rfl, rfl, Lib.hid (fun j h => by omega), Lib.hid (Below.refl _ _)⟩
  case round =>
    obtain ⟨k, hk, rfl, rfl, HJ, HK⟩ := hrel
    by_cases hlt : k < ws.length
    · obtain ⟨b1, o1, rfl, hb1, hc1⟩ := HA.out.get (by omega)
      obtain ⟨b2, o2, rfl, hb2, hc2⟩ := HB.out.get (by have := HL.out; omega)
      have q1 := (HK.out.cell (p := ⟨b1, o1 + k, none⟩) hb1).trans (hc1 k hlt)
      have q2 := (HK.out.cell (p := ⟨b2, o2 + k, none⟩) hb2).trans (hc2 k (by have := HL.out; omega))
      have k0 : (0 : Int) ≤ (k : Int) := by omega
      have k1 : (k : Int) < (ws.length : Int) := by omega
      have kT : ((k : Int)).toNat = k := by omega
      have HX := Lib.hid (show ws.getD k [] = ys.getD k [] → ∀ j, j < k + 1 → ws.getD j [] = ys.getD j [] from fun h j hj => by
        rcases Nat.lt_or_ge j k with h' | h'
        · exact HJ.out j h'
        · obtain rfl : j = k := by omega
          exact h)
      have HZ := Lib.hid (show ws.getD k [] ≠ ys.getD k [] → decide (ws = ys) = false from fun h => by rw [decide_eq_false_iff_not]; intro e; exact h (by rw [e]))
      clear hc1 hc2
      generalize ws.getD k [] = x at *
      generalize ys.getD k [] = y at *
      by_cases hxy : x = y
      · have HX2 := Lib.hid (HX.out hxy)
        have hne : (x != y) = false := by simp [hxy]
        have hne2 : (x == y) = true := by simp [hxy]
        clear hxy
        go_wp2
        go_quiet (fail)
        go_wp2
        go_roundw
        case rel => exact ⟨k + 1, by omega, rfl, by go_num, HX2, Lib.hid (below_drewN HK.out _)⟩
        case measure => simp [intOf]; omega
      · have HZ2 := Lib.hid (HZ.out hxy)
        have hne : (x != y) = true := by simp [hxy]
        have hne2 : (x == y) = false := by simp [hxy]
        clear hxy
        go_wp2
        go_quiet (fail)
        go_wp2
        go_ret
        exact ⟨by rw [HZ2.out]; rfl, below_drewN HK.out _⟩
    · obtain rfl : k = ws.length := by omega
      have HE := Lib.hid (show decide (ws = ys) = true from by rw [decide_eq_true_eq]; exact eq_of_getD HL.out HJ.out)
      go_wp2
      go_ret
      exact ⟨by rw [HE.out]; rfl, HK.out⟩

theorem eqW_any (a b : Option Addr) (c d : Nat) (ws ys : List (List UInt8)) (w : World) (hA : Wds w a c ws) (hB : Wds w b d ys) :
    Calls Try.prog 81 #[.slice a ws.length c, .slice b ys.length d] w fun e W' => e = .returned (.bool (decide (ws = ys))) ∧ Below w.heap.size w W' := by
  by_cases hl : ws.length = ys.length
  · have := eqW_same a b c d ws ys w hl hA hB
    rwa [show (.slice b ws.length d : Value) = .slice b ys.length d by rw [hl]] at this
  · rw [show decide (ws = ys) = false by rw [decide_eq_false_iff_not]; rintro rfl; exact hl rfl]
    exact eqW_len a b _ _ c d w hl (Nat.le_trans hA.1 hA.2.1) (Nat.le_trans hB.1 hB.2.1)

set_option maxRecDepth 100000 in
set_option maxHeartbeats 2000000 in
theorem eqF_len (a b : Option Addr) (n m c d : Nat) (w : World) (h : n ≠ m) (hn : n ≤ 9223372036854775807) (hm : m ≤ 9223372036854775807) :
    Calls Try.prog 80 #[.slice a n c, .slice b m d] w fun e W' => e = .returned (.bool false) ∧ Below w.heap.size w W' := by
  have h1 : ((n : Int) != (m : Int)) = true := by rw [bne_iff_ne]; omega
  have h2 : (n : Int) ≤ 9223372036854775807 := by omega
  have h3 : (m : Int) ≤ 9223372036854775807 := by omega
  go_enter Try.func80, Try.ntmps80
  go_wp2
  go_ret
  exact ⟨rfl, Below.refl _ _⟩

set_option maxRecDepth 100000 in
set_option maxHeartbeats 2000000 in
theorem eqF_same (a b : Option Addr) (c d : Nat) (ws ys : List (List UInt8 × List UInt8)) (w : World) (hl : ws.length = ys.length) (hA : Fds w a c ws) (hB : Fds w b d ys) :
    Calls Try.prog 80 #[.slice a ws.length c, .slice b ws.length d] w fun e W' => e = .returned (.bool (decide (ws = ys))) ∧ Below w.heap.size w W' := by
  have hn : ws.length ≤ 9223372036854775807 := Nat.le_trans hA.1 hA.2.1
  have hnI : (ws.length : Int) ≤ 9223372036854775807 := by omega
  have HA := Lib.hid hA
  have HB := Lib.hid hB
  have HL := Lib.hid hl
  have h1 : ((ws.length : Int) != (ws.length : Int)) = false := by simp
  clear hA hB hl
  go_enter Try.func80, Try.ntmps80
  go_wp2
  go_loopw [4, 13] (fun r i wr => ∃ k : Nat, k ≤ ws.length ∧ r = .bool false ∧ i = .int .i64 k ∧ Hid (∀ j, j < k → ws.getD j ([], []) = ys.getD j ([], [])) ∧ Hid (Below w.heap.size w wr)) (fun _ i _ => ws.length - (intOf i).toNat)
  case atStart => exact ⟨0, Nat.zero_le _, rfl, rfl, Lib.hid (fun j h => by omega), Lib.hid (Below.refl _ _)⟩
  case round =>
    obtain ⟨k, hk, rfl, rfl, HJ, HK⟩ := hrel
    by_cases hlt : k < ws.length
    · obtain ⟨b1, o1, rfl, hb1, hc1⟩ := HA.out.get (by omega)
      obtain ⟨b2, o2, rfl, hb2, hc2⟩ := HB.out.get (by have := HL.out; omega)
      have q1 := (HK.out.cell (p := ⟨b1, o1 + k * 2, none⟩) hb1).trans (hc1 k hlt).1
      have q2 := (HK.out.cell (p := ⟨b1, o1 + k * 2 + 1, none⟩) hb1).trans (hc1 k hlt).2
      have q3 := (HK.out.cell (p := ⟨b2, o2 + k * 2, none⟩) hb2).trans (hc2 k (by have := HL.out; omega)).1
      have q4 := (HK.out.cell (p := ⟨b2, o2 + k * 2 + 1, none⟩) hb2).trans (hc2 k (by have := HL.out; omega)).2
      have k0 : (0 : Int) ≤ (k : Int) := by omega
      have k1 : (k : Int) < (ws.length : Int) := by omega
      have kT : ((k : Int)).toNat = k := by omega
      have HX := Lib.hid (show ws.getD k ([], []) = ys.getD k ([], []) → ∀ j, j < k + 1 → ws.getD j ([], []) = ys.getD j ([], []) from fun h j hj => by
        rcases Nat.lt_or_ge j k with h' | h'
        · exact HJ.out j h'
        · obtain rfl : j = k := by omega
          exact h)
      have HZ := Lib.hid (show ws.getD k ([], []) ≠ ys.getD k ([], []) → decide (ws = ys) = false from fun h => by rw [decide_eq_false_iff_not]; intro e; exact h (by rw [e]))
      clear hc1 hc2
      generalize ws.getD k ([], []) = x at *
      generalize ys.getD k ([], []) = y at *
      obtain ⟨x1, x2⟩ := x
      obtain ⟨y1, y2⟩ := y
      have hq := fun W => field_neq x1 x2 y1 y2 W
      simp only at q1 q2 q3 q4
      by_cases hxy : (x1, x2) = (y1, y2)
      · have HX2 := Lib.hid (HX.out hxy)
        rw [decide_eq_true hxy] at hq
        simp only [Bool.not_true] at hq
        clear hxy
        go_wp2
        go_quiet (fail)
        go_wp2
        go_roundw
        case rel => exact ⟨k + 1, by omega, rfl, by go_num, HX2, Lib.hid (below_drewN HK.out _)⟩
        case measure => simp [intOf]; omega
      · have HZ2 := Lib.hid (HZ.out hxy)
        rw [decide_eq_false hxy] at hq
        simp only [Bool.not_false] at hq
        clear hxy
        go_wp2
        go_quiet (fail)
        go_wp2
        go_ret
        exact ⟨by rw [HZ2.out]; rfl, below_drewN HK.out _⟩
    · obtain rfl : k = ws.length := by omega
      have HE := Lib.hid (show decide (ws = ys) = true from by rw [decide_eq_true_eq]; exact eq_of_getD HL.out HJ.out)
      go_wp2
      go_ret
      exact ⟨by rw [HE.out]; rfl, HK.out⟩

theorem eqF_any (a b : Option Addr) (c d : Nat) (ws ys : List (List UInt8 × List UInt8)) (w : World) (hA : Fds w a c ws) (hB : Fds w b d ys) :
    Calls Try.prog 80 #[.slice a ws.length c, .slice b ys.length d] w fun e W' => e = .returned (.bool (decide (ws = ys))) ∧ Below w.heap.size w W' := by
  by_cases hl : ws.length = ys.length
  · have := eqF_same a b c d ws ys w hl hA hB
    rwa [show (.slice b ws.length d : Value) = .slice b ys.length d by rw [hl]] at this
  · rw [show decide (ws = ys) = false by rw [decide_eq_false_iff_not]; rintro rfl; exact hl rfl]
    exact eqF_len a b _ _ c d w hl (Nat.le_trans hA.1 hA.2.1) (Nat.le_trans hB.1 hB.2.1)

end Go.Proofs.Ytihleddhjmejoaa
namespace Go.Proofs.Ytihleddhjmejoaa
open Go.RowKit Go.Shelf

set_option maxRecDepth 100000 in
set_option maxHeartbeats 4000000 in
theorem same_any (ka kb xa xb : Int) (sa sb : List UInt8) (aF bF : Option Addr) (cF dF : Nat) (fa fb : List (List UInt8 × List UInt8)) (aL bL : Option Addr) (cL dL : Nat) (wa wb : List (List UInt8)) (w : World) (hFa : Fds w aF cF fa) (hFb : Fds w bF dF fb) (hLa : Wds w aL cL wa) (hLb : Wds w bL dL wb) :
    Calls Try.prog 73 #[itv ka sa aF fa.length cF aL wa.length cL xa, itv kb sb bF fb.length dF bL wb.length dL xb] w fun e w' => e = .returned (.bool (It.sameB ⟨ka, sa, fa, wa, xa⟩ ⟨kb, sb, fb, wb, xb⟩)) ∧ Below w.heap.size w w' := by
  have hfc := fun W (h : Below w.heap.size w W) => eqF_any aF bF cF dF fa fb W (hFa.later h) (hFb.later h)
  have hlc := fun W (h : Below w.heap.size w W) => eqW_any aL bL cL dL wa wb W (hLa.later h) (hLb.later h)
  by_cases hk : ka = kb
  rotate_left
  · rw [show It.sameB ⟨ka, sa, fa, wa, xa⟩ ⟨kb, sb, fb, wb, xb⟩ = false by simp [It.sameB, hk]]
    have ek : (ka == kb) = false := beq_eq_false_iff_ne.2 hk
    have HF := Lib.hid hfc
    have HL := Lib.hid hlc
    clear hfc hlc hFa hFb hLa hLb
    generalize fa.length = nFa at *
    generalize fb.length = nFb at *
    generalize wa.length = nLa at *
    generalize wb.length = nLb at *
    unfold itv
    go_enter Try.func73, Try.ntmps73
    go_wp2
    go_ret
    exact ⟨rfl, ((Below.refl _ w).alloc (Nat.le_refl _) _).alloc (by simp) _⟩
  subst hk
  by_cases hs : sa = sb
  rotate_left
  · rw [show It.sameB ⟨ka, sa, fa, wa, xa⟩ ⟨ka, sb, fb, wb, xb⟩ = false by simp [It.sameB, hs]]
    have es : (sa == sb) = false := beq_eq_false_iff_ne.2 hs
    have HF := Lib.hid hfc
    have HL := Lib.hid hlc
    clear hfc hlc hFa hFb hLa hLb
    generalize fa.length = nFa at *
    generalize fb.length = nFb at *
    generalize wa.length = nLa at *
    generalize wb.length = nLb at *
    unfold itv
    go_enter Try.func73, Try.ntmps73
    go_wp2
    go_ret
    exact ⟨rfl, ((Below.refl _ w).alloc (Nat.le_refl _) _).alloc (by simp) _⟩
  subst hs
  by_cases hf : fa = fb
  rotate_left
  · rw [show It.sameB ⟨ka, sa, fa, wa, xa⟩ ⟨ka, sa, fb, wb, xb⟩ = false by simp [It.sameB, hf]]
    rw [decide_eq_false hf] at hfc
    have HF := Lib.hid hfc
    have HL := Lib.hid hlc
    clear hfc hlc hFa hFb hLa hLb
    generalize fa.length = nFa at *
    generalize fb.length = nFb at *
    generalize wa.length = nLa at *
    generalize wb.length = nLb at *
    unfold itv
    go_enter Try.func73, Try.ntmps73
    go_wp2_with fail
    refine (HF.out _ (((Below.refl _ w).alloc (Nat.le_refl _) _).alloc (by simp) _)).mono ?_
    rintro e w1 ⟨rfl, hb⟩
    have HB1 : Hid (Below w.heap.size w w1) := Lib.hid ((((Below.refl _ w).alloc (Nat.le_refl _) _).alloc (by simp) _).trans (hb.mono (by simp; omega)))
    obtain ⟨hcl, -⟩ := bcell hb
    have hs1 := hb.size
    clear hb
    simp only [World.size_alloc] at hcl hs1
    have hz0 : w.heap.size < w1.heap.size := by omega
    have hz1 : w.heap.size + 1 < w1.heap.size := by omega
    go_wp2
    go_ret
    exact ⟨rfl, HB1.out⟩
  rw [decide_eq_true hf] at hfc
  by_cases hl : wa = wb
  rotate_left
  · rw [show It.sameB ⟨ka, sa, fa, wa, xa⟩ ⟨ka, sa, fb, wb, xb⟩ = false by simp [It.sameB, hl]]
    rw [decide_eq_false hl] at hlc
    have HF := Lib.hid hfc
    have HL := Lib.hid hlc
    clear hfc hlc hFa hFb hLa hLb
    generalize fa.length = nFa at *
    generalize fb.length = nFb at *
    generalize wa.length = nLa at *
    generalize wb.length = nLb at *
    unfold itv
    go_enter Try.func73, Try.ntmps73
    go_wp2_with fail
    refine (HF.out _ (((Below.refl _ w).alloc (Nat.le_refl _) _).alloc (by simp) _)).mono ?_
    rintro e w1 ⟨rfl, hb⟩
    have HB1 : Hid (Below w.heap.size w w1) := Lib.hid ((((Below.refl _ w).alloc (Nat.le_refl _) _).alloc (by simp) _).trans (hb.mono (by simp; omega)))
    obtain ⟨hcl, -⟩ := bcell hb
    have hs1 := hb.size
    clear hb
    simp only [World.size_alloc] at hcl hs1
    have hz0 : w.heap.size < w1.heap.size := by omega
    have hz1 : w.heap.size + 1 < w1.heap.size := by omega
    go_wp2_with fail
    refine (HL.out _ HB1.out).mono ?_
    rintro e w2 ⟨rfl, hb⟩
    have HB2 : Hid (Below w.heap.size w w2) := Lib.hid (HB1.out.trans (hb.mono (by omega)))
    obtain ⟨hcl2, -⟩ := bcell hb
    clear hb
    go_wp2
    go_ret
    exact ⟨rfl, HB2.out⟩
  rw [decide_eq_true hl] at hlc
  by_cases hx : xa = xb
  rotate_left
  · rw [show It.sameB ⟨ka, sa, fa, wa, xa⟩ ⟨ka, sa, fb, wb, xb⟩ = false by simp [It.sameB, hx]]
    have ex : (xa == xb) = false := beq_eq_false_iff_ne.2 hx
    have HF := Lib.hid hfc
    have HL := Lib.hid hlc
    clear hfc hlc hFa hFb hLa hLb
    generalize fa.length = nFa at *
    generalize fb.length = nFb at *
    generalize wa.length = nLa at *
    generalize wb.length = nLb at *
    unfold itv
    go_enter Try.func73, Try.ntmps73
    go_wp2_with fail
    refine (HF.out _ (((Below.refl _ w).alloc (Nat.le_refl _) _).alloc (by simp) _)).mono ?_
    rintro e w1 ⟨rfl, hb⟩
    have HB1 : Hid (Below w.heap.size w w1) := Lib.hid ((((Below.refl _ w).alloc (Nat.le_refl _) _).alloc (by simp) _).trans (hb.mono (by simp; omega)))
    obtain ⟨hcl, -⟩ := bcell hb
    have hs1 := hb.size
    clear hb
    simp only [World.size_alloc] at hcl hs1
    have hz0 : w.heap.size < w1.heap.size := by omega
    have hz1 : w.heap.size + 1 < w1.heap.size := by omega
    go_wp2_with fail
    refine (HL.out _ HB1.out).mono ?_
    rintro e w2 ⟨rfl, hb⟩
    have HB2 : Hid (Below w.heap.size w w2) := Lib.hid (HB1.out.trans (hb.mono (by omega)))
    obtain ⟨hcl2, -⟩ := bcell hb
    clear hb
    go_wp2
    go_ret
    exact ⟨rfl, HB2.out⟩
  subst hx
  rw [show It.sameB ⟨ka, sa, fa, wa, xa⟩ ⟨ka, sa, fb, wb, xa⟩ = true by simp [It.sameB, hf, hl]]
  have HF := Lib.hid hfc
  have HL := Lib.hid hlc
  clear hfc hlc hFa hFb hLa hLb
  generalize fa.length = nFa at *
  generalize fb.length = nFb at *
  generalize wa.length = nLa at *
  generalize wb.length = nLb at *
  unfold itv
  go_enter Try.func73, Try.ntmps73
  go_wp2_with fail
  refine (HF.out _ (((Below.refl _ w).alloc (Nat.le_refl _) _).alloc (by simp) _)).mono ?_
  rintro e w1 ⟨rfl, hb⟩
  have HB1 : Hid (Below w.heap.size w w1) := Lib.hid ((((Below.refl _ w).alloc (Nat.le_refl _) _).alloc (by simp) _).trans (hb.mono (by simp; omega)))
  obtain ⟨hcl, -⟩ := bcell hb
  have hs1 := hb.size
  clear hb
  simp only [World.size_alloc] at hcl hs1
  have hz0 : w.heap.size < w1.heap.size := by omega
  have hz1 : w.heap.size + 1 < w1.heap.size := by omega
  go_wp2_with fail
  refine (HL.out _ HB1.out).mono ?_
  rintro e w2 ⟨rfl, hb⟩
  have HB2 : Hid (Below w.heap.size w w2) := Lib.hid (HB1.out.trans (hb.mono (by omega)))
  obtain ⟨hcl2, -⟩ := bcell hb
  clear hb
  go_wp2
  go_ret
  exact ⟨rfl, HB2.out⟩

end Go.Proofs.Ytihleddhjmejoaa
namespace Go.Proofs.Ytihleddhjmejoaa
namespace Mk
open It

abbrev F := List UInt8 × List UInt8

/-- a field is set: one round. -/
def stepH (n v : List UInt8) (st : List F × Bool) (x : F) : List F × Bool :=
  let st' := if !st.2 && !decide (x.1 < n) then (st.1 ++ [(n, v)], true) else st
  (if x.1 = n then st'.1 else st'.1 ++ [x], st'.2)
def foldH (n v : List UInt8) (l : List F) : List F × Bool := l.foldl (stepH n v) ([], false)
def hset (l : List F) (n v : List UInt8) : List F := if (foldH n v l).2 then (foldH n v l).1 else (foldH n v l).1 ++ [(n, v)]

theorem foldH_snoc (n v : List UInt8) (l : List F) (x : F) : foldH n v (l ++ [x]) = stepH n v (foldH n v l) x := by simp [foldH, List.foldl_append]
theorem stepH_len (n v : List UInt8) (st : List F × Bool) (x : F) : (stepH n v st x).1.length ≤ st.1.length + 2 := by
  unfold stepH
  split <;> split <;> simp <;> omega

/-- a text is added. -/
def hasB (l : List (List UInt8)) (s : List UInt8) : Bool := l.any fun t => t == s
def lowS : List (List UInt8) → List UInt8 → Nat
  | [], _ => 0
  | t :: r, s => if t < s then lowS r s + 1 else 0
theorem low_le (l : List (List UInt8)) (s : List UInt8) : lowS l s ≤ l.length := by
  induction l with
  | nil => exact Nat.le_refl _
  | cons t r ih => unfold lowS; split <;> simp <;> omega
theorem low_lt {l : List (List UInt8)} {s : List UInt8} {j : Nat} (h : j < lowS l s) : l.getD j [] < s := by
  induction l generalizing j with
  | nil => simp [lowS] at h
  | cons t r ih =>
    unfold lowS at h
    split at h
    · cases j with
      | zero => simpa using ‹t < s›
      | succ j => simpa using ih (by omega)
    · omega
theorem low_at {l : List (List UInt8)} {s : List UInt8} (h : lowS l s < l.length) : ¬ l.getD (lowS l s) [] < s := by
  induction l with
  | nil => simp at h
  | cons t r ih =>
    unfold lowS at h ⊢
    split
    · rename_i ht
      rw [if_pos ht] at h
      simpa using ih (by simpa using h)
    · rename_i ht
      simpa using ht
theorem low_eq {l : List (List UInt8)} {s : List UInt8} {k : Nat} (hk : k ≤ l.length) (h1 : ∀ j, j < k → l.getD j [] < s) (h2 : k = l.length ∨ ¬ l.getD k [] < s) : lowS l s = k := by
  rcases Nat.lt_trichotomy (lowS l s) k with h | h | h
  · exact absurd (h1 _ h) (low_at (by omega))
  · exact h
  · have := low_le l s
    rcases h2 with h2 | h2
    · omega
    · exact absurd (low_lt h) h2
def sadd (l : List (List UInt8)) (s : List UInt8) : List (List UInt8) := if hasB l s then l else l.take (lowS l s) ++ [s] ++ l.drop (lowS l s)

def upF (l : List F) : Prop := l.Pairwise fun a b => a.1 < b.1
def upS (l : List (List UInt8)) : Prop := l.Pairwise fun a b => a < b

theorem ris_of_up {l : List (List UInt8)} (h : upS l) : risB l = true := by
  rw [risB_iff]
  intro k hk h0
  rw [getD_eq hk, getD_eq (by omega)]
  exact List.pairwise_iff_getElem.1 h (k - 1) k (by omega) hk (by omega)
theorem ris_of_upF {l : List F} (h : upF l) : risB (l.map (·.1)) = true := ris_of_up (by unfold upS; rw [List.pairwise_map]; exact h)

theorem lt_of_not {a b : List UInt8} (h : ¬ a < b) (hn : a ≠ b) : b < a := by
  have := not_lt b a
  rw [decide_eq_false h] at this
  simp only [Bool.not_false, Bool.or_eq_true, decide_eq_true_eq, beq_iff_eq] at this
  rcases this with h' | h'
  · exact h'
  · exact absurd h'.symm hn
theorem lt_ne {a b : List UInt8} (h : a < b) : a ≠ b := fun e => List.lt_irrefl b (e ▸ h)
theorem lt_tr {a b c : List UInt8} (h : a < b) (k : b < c) : a < c := List.lt_trans h k

theorem upF_snoc {l : List F} {x : F} (h : upF l) (hx : ∀ y ∈ l, y.1 < x.1) : upF (l ++ [x]) := by
  unfold upF
  rw [List.pairwise_append]
  exact ⟨h, List.pairwise_singleton _ _, fun a ha b hb => by rw [List.mem_singleton.1 hb]; exact hx a ha⟩

/-- what the rounds have made of fields that rise. -/
def RoundH (n v : List UInt8) (l : List F) : Prop :=
  upF (foldH n v l).1 ∧ (∀ y ∈ (foldH n v l).1, y = (n, v) ∨ y ∈ l) ∧
    ((foldH n v l).2 = true → ∃ x ∈ l, ¬ x.1 < n) ∧ ((foldH n v l).2 = false → (∀ y ∈ (foldH n v l).1, y.1 < n) ∧ ∀ x ∈ l, x.1 < n)

theorem round_H (n v : List UInt8) (l : List F) (h : upF l) : RoundH n v l := by
  suffices H : ∀ m, m ≤ l.length → RoundH n v (l.take m) by simpa using H l.length (Nat.le_refl _)
  intro m
  induction m with
  | zero =>
    intro _
    refine ⟨?_, ?_, ?_, ?_⟩ <;> simp [foldH, upF]
  | succ m ih =>
    intro hm
    obtain ⟨i1, i2, i3, i4⟩ := ih (by omega)
    have e : l.take (m + 1) = l.take m ++ [l[m]] := (List.take_append_getElem (by omega)).symm
    have hup : ∀ y ∈ l.take m, y.1 < (l[m]).1 := by
      intro y hy
      obtain ⟨j, hj, rfl⟩ := List.mem_take_iff_getElem.1 hy
      exact List.pairwise_iff_getElem.1 h j m (by omega) (by omega) (by omega)
    rw [e]
    generalize l[m] = x at hup
    generalize l.take m = l' at *
    unfold RoundH
    rw [foldH_snoc]
    clear e ih hm h
    obtain ⟨st, hst⟩ : ∃ st, foldH n v l' = st := ⟨_, rfl⟩
    rw [hst] at i1 i2 i3 i4 ⊢
    obtain ⟨out, b⟩ := st
    simp only at i1 i2 i3 i4
    clear hst
    have sub : ∀ y ∈ out, y = (n, v) ∨ y ∈ l' ++ [x] := fun y hy => (i2 y hy).imp id (fun h => List.mem_append_left _ h)
    have subn : ∀ y ∈ out ++ [(n, v)], y = (n, v) ∨ y ∈ l' ++ [x] := fun y hy => by
      rcases List.mem_append.1 hy with hy | hy
      · exact sub y hy
      · exact .inl (List.mem_singleton.1 hy)
    have subx : ∀ {o : List F}, (∀ y ∈ o, y = (n, v) ∨ y ∈ l' ++ [x]) → ∀ y ∈ o ++ [x], y = (n, v) ∨ y ∈ l' ++ [x] := fun ho y hy => by
      rcases List.mem_append.1 hy with hy | hy
      · exact ho y hy
      · exact .inr (List.mem_append_right _ hy)
    cases b with
    | true =>
      obtain ⟨z, hz, hzn⟩ := i3 rfl
      have hnx : n < x.1 := by
        by_cases hzz : z.1 = n
        · exact hzz ▸ hup z hz
        · exact lt_tr (lt_of_not hzn hzz) (hup z hz)
      have e : stepH n v (out, true) x = (out ++ [x], true) := by simp [stepH, (lt_ne hnx).symm]
      rw [e]
      refine ⟨upF_snoc i1 fun y hy => ?_, subx sub, fun _ => ⟨z, List.mem_append_left _ hz, hzn⟩, fun h => by cases h⟩
      rcases i2 y hy with rfl | hy
      · exact hnx
      · exact hup y hy
    | false =>
      obtain ⟨i5, i6⟩ := i4 rfl
      have hox : ∀ y ∈ out, y.1 < x.1 := fun y hy => by
        rcases i2 y hy with rfl | hy
        · exact absurd (i5 _ hy) (List.lt_irrefl _)
        · exact hup y hy
      by_cases hx : x.1 < n
      · have e : stepH n v (out, false) x = (out ++ [x], false) := by simp [stepH, hx, lt_ne hx]
        rw [e]
        refine ⟨upF_snoc i1 hox, subx sub, (fun h => by cases h), fun _ => ⟨?_, ?_⟩⟩
        · intro y hy
          rcases List.mem_append.1 hy with hy | hy
          · exact i5 y hy
          · rw [List.mem_singleton.1 hy]; exact hx
        · intro y hy
          rcases List.mem_append.1 hy with hy | hy
          · exact i6 y hy
          · rw [List.mem_singleton.1 hy]; exact hx
      · have hi : ∃ y ∈ l' ++ [x], ¬ y.1 < n := ⟨x, by simp, hx⟩
        have u1 : upF (out ++ [(n, v)]) := upF_snoc i1 i5
        by_cases hxn : x.1 = n
        · have e : stepH n v (out, false) x = (out ++ [(n, v)], true) := by simp [stepH, hxn, List.lt_irrefl]
          rw [e]
          exact ⟨u1, subn, fun _ => hi, fun h => by cases h⟩
        · have e : stepH n v (out, false) x = (out ++ [(n, v)] ++ [x], true) := by simp [stepH, hxn, hx]
          rw [e]
          refine ⟨upF_snoc u1 fun y hy => ?_, subx subn, fun _ => hi, fun h => by cases h⟩
          rcases List.mem_append.1 hy with hy | hy
          · exact hox y hy
          · rw [List.mem_singleton.1 hy]; exact lt_of_not hx hxn

theorem hset_up (n v : List UInt8) (l : List F) (h : upF l) : upF (hset l n v) ∧ ∀ y ∈ hset l n v, y = (n, v) ∨ y ∈ l := by
  obtain ⟨i1, i2, i3, i4⟩ := round_H n v l h
  unfold hset
  cases hb : (foldH n v l).2 with
  | true => rw [if_pos rfl]; exact ⟨i1, i2⟩
  | false =>
    rw [if_neg (by simp)]
    refine ⟨upF_snoc i1 (i4 hb).1, fun y hy => ?_⟩
    rcases List.mem_append.1 hy with hy | hy
    · exact i2 y hy
    · exact .inl (List.mem_singleton.1 hy)
theorem foldH_len (n v : List UInt8) (l : List F) : (foldH n v l).1.length + (if (foldH n v l).2 then 0 else 1) ≤ l.length + 1 := by
  suffices H : ∀ m, m ≤ l.length → (foldH n v (l.take m)).1.length + (if (foldH n v (l.take m)).2 then 0 else 1) ≤ m + 1 by simpa using H l.length (Nat.le_refl _)
  intro m
  induction m with
  | zero => intro _; simp [foldH]
  | succ m ih =>
    intro hm
    have e : l.take (m + 1) = l.take m ++ [l[m]] := (List.take_append_getElem (by omega)).symm
    have := ih (by omega)
    rw [e, foldH_snoc]
    generalize foldH n v (l.take m) = st at *
    obtain ⟨out, b⟩ := st
    cases b <;> by_cases h1 : (l[m]).1 < n <;> by_cases h2 : (l[m]).1 = n <;> simp [stepH, h1, h2] at this ⊢ <;> omega
theorem hset_len (n v : List UInt8) (l : List F) : (hset l n v).length ≤ l.length + 1 := by
  have := foldH_len n v l
  unfold hset
  cases h : (foldH n v l).2 <;> simp [h] at this ⊢ <;> omega
theorem hset_pos (n v : List UInt8) (l : List F) : 0 < (hset l n v).length ∨ (foldH n v l).2 = true := by
  unfold hset
  cases h : (foldH n v l).2
  · left; simp
  · right; rfl

theorem sadd_up (l : List (List UInt8)) (s : List UInt8) (h : upS l) : upS (sadd l s) ∧ (∀ t ∈ sadd l s, t = s ∨ t ∈ l) ∧ (sadd l s).length ≤ l.length + 1 := by
  unfold sadd
  split
  · exact ⟨h, fun t ht => .inr ht, by omega⟩
  · rename_i hs
    have hno : ∀ t ∈ l, t ≠ s := fun t ht e => hs (by unfold hasB; rw [List.any_eq_true]; exact ⟨t, ht, by simp [e]⟩)
    have hle := low_le l s
    have h1 : ∀ t ∈ l.take (lowS l s), t < s := by
      intro t ht
      obtain ⟨j, hj, rfl⟩ := List.mem_take_iff_getElem.1 ht
      have := low_lt (l := l) (s := s) (j := j) (by omega)
      rwa [getD_eq (by omega)] at this
    have h2 : ∀ t ∈ l.drop (lowS l s), s < t := by
      intro t ht
      obtain ⟨j, hj, rfl⟩ := List.mem_drop_iff_getElem.1 ht
      have hk : lowS l s < l.length := by omega
      have hf : ¬ l[lowS l s] < s := by
        have := low_at hk
        rwa [getD_eq hk] at this
      have h0 : s < l[lowS l s] := lt_of_not hf (hno _ (List.getElem_mem hk))
      rcases Nat.eq_zero_or_pos j with rfl | hj0
      · simpa using h0
      · exact lt_tr h0 (List.pairwise_iff_getElem.1 h (lowS l s) (lowS l s + j) hk (by omega) (by omega))
    refine ⟨?_, fun t ht => ?_, ?_⟩
    · unfold upS
      rw [List.pairwise_append, List.pairwise_append]
      refine ⟨⟨h.sublist (List.take_sublist _ _), List.pairwise_singleton _ _, fun a ha b hb => ?_⟩, h.sublist (List.drop_sublist _ _), fun a ha b hb => ?_⟩
      · rw [List.mem_singleton.1 hb]; exact h1 a ha
      · rcases List.mem_append.1 ha with ha | ha
        · exact lt_tr (h1 a ha) (h2 b hb)
        · rw [List.mem_singleton.1 ha]; exact h2 b hb
    · simp only [List.mem_append, List.mem_singleton] at ht
      rcases ht with (ht | ht) | ht
      · exact .inr (List.mem_of_mem_take ht)
      · exact .inl ht
      · exact .inr (List.mem_of_mem_drop ht)
    · simp; omega
end Mk
end Go.Proofs.Ytihleddhjmejoaa
