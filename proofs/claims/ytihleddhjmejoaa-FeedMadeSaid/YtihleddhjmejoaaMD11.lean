/- Whether two lists of words, or of fields, are one: slices.Equal, and the reference's Texts and SameFields. The contracts of item.Same and of the reference's SameItem. -/
import Derived.Test.YtihleddhjmejoaaMD04
import Derived.BigQuiet
namespace Go.Proofs.Ytihleddhjmejoaa
open Go.RowKit Go.Shelf

theorem eq_of_getD {α : Type} {d : α} {l m : List α} (hl : l.length = m.length) (h : ∀ k, k < l.length → l.getD k d = m.getD k d) : l = m := by
  apply List.ext_getElem hl
  intro i h1 h2
  have := h i h1
  rwa [getD_eq h1, getD_eq h2] at this

theorem field_neq (x y x2 y2 : List UInt8) (w : World) :
    (binOp .neq 87 (.agg #[.string ⟨x.toArray⟩, .string ⟨y.toArray⟩]) (.agg #[.string ⟨x2.toArray⟩, .string ⟨y2.toArray⟩])).run Try.prog w = .ok (.bool (!decide ((x, y) = (x2, y2)))) w := by
  have u9 := Try.underlying9
  have a9 := Try.isAgg9
  have z9 := Try.sizeOf9
  have hS : Try.prog.underlying 87 = some (.struct (Try.prog.fieldsOf 87)) := by kernel_rfl
  have hp : Try.prog.stoodInHeld 87 = false := by kernel_rfl
  rw [run_neq_struct, show (10000 : Nat) = 9999 + 1 from rfl, run_equalIn_agg w 9999 87 _ _ hS hp]
  simp only [Program.fieldsOf, Try.underlying87]
  go_simp
  by_cases h1 : x = x2 <;> by_cases h2 : y = y2 <;> simp [h1, h2]

set_option maxRecDepth 100000 in
set_option maxHeartbeats 2000000 in
theorem texts_len (a b : Option Addr) (n m c d : Nat) (w : World) (h : n ≠ m) (hn : n ≤ 9223372036854775807) (hm : m ≤ 9223372036854775807) :
    Calls Try.prog 57 #[.slice a n c, .slice b m d] w fun e W' => e = .returned (.bool false) ∧ Below w.heap.size w W' := by
  have h1 : ((n : Int) != (m : Int)) = true := by rw [bne_iff_ne]; omega
  have h2 : (n : Int) ≤ 9223372036854775807 := by omega
  have h3 : (m : Int) ≤ 9223372036854775807 := by omega
  go_enter Try.func57, Try.ntmps57
  go_wp2
  go_ret
  exact ⟨rfl, Below.refl _ _⟩

set_option maxRecDepth 100000 in
set_option maxHeartbeats 2000000 in
theorem texts_same (a b : Option Addr) (c d : Nat) (ws ys : List (List UInt8)) (w : World) (hl : ws.length = ys.length) (hA : Wds w a c ws) (hB : Wds w b d ys) :
    Calls Try.prog 57 #[.slice a ws.length c, .slice b ws.length d] w fun e W' => e = .returned (.bool (decide (ws = ys))) ∧ Below w.heap.size w W' := by
  have hn : ws.length ≤ 9223372036854775807 := Nat.le_trans hA.1 hA.2.1
  have hnI : (ws.length : Int) ≤ 9223372036854775807 := by omega
  have HA := Lib.hid hA
  have HB := Lib.hid hB
  have HL := Lib.hid hl
  have h1 : ((ws.length : Int) != (ws.length : Int)) = false := by simp
  clear hA hB hl
  go_enter Try.func57, Try.ntmps57
  go_wp2
  go_loopw [4, 5] (fun r i wr => ∃ k : Nat, k ≤ ws.length ∧ r = .bool false ∧ i = .int .i64 k ∧ Hid (∀ j, j < k → ws.getD j [] = ys.getD j []) ∧ Hid (Below w.heap.size w wr)) (fun _ i _ => ws.length - (intOf i).toNat)
  case atStart => exact ⟨0, Nat.zero_le _, rfl, rfl, Lib.hid (fun j h => by omega), Lib.hid (Below.refl _ _)⟩
  case round =>
    obtain ⟨k, hk, rfl, rfl, HJ, HK⟩ := hrel
    by_cases hlt : k < ws.length
    · obtain ⟨b1, o1, rfl, hb1, hc1⟩ := HA.out.get (by omega)
      obtain ⟨b2, o2, rfl, hb2, hc2⟩ := HB.out.get (by have := HL.out; omega)
      have q1 := (HK.out.cell (p := ⟨b1, o1 + k, none⟩) hb1).trans (hc1 k hlt)
      have q2 := (HK.out.cell (p := ⟨b2, o2 + k, none⟩) hb2).trans (hc2 k (by have := HL.out; omega))
      have k0 : (0 : Int) ≤ (k : Int) := by omega
      have k1 : (k : Int) < (ws.length : Int) := by omega
      have kT : ((k : Int)).toNat = k := by omega
      have HX := Lib.hid (show ws.getD k [] = ys.getD k [] → ∀ j, j < k + 1 → ws.getD j [] = ys.getD j [] from fun h j hj => by
        rcases Nat.lt_or_ge j k with h' | h'
        · exact HJ.out j h'
        · obtain rfl : j = k := by omega
          exact h)
      have HZ := Lib.hid (show ws.getD k [] ≠ ys.getD k [] → decide (ws = ys) = false from fun h => by rw [decide_eq_false_iff_not]; intro e; exact h (by rw [e]))
      clear hc1 hc2
      generalize ws.getD k [] = x at *
      generalize ys.getD k [] = y at *
      by_cases hxy : x = y
      · have HX2 := Lib.hid (HX.out hxy)
        have hne : (x != y) = false := by simp [hxy]
        have hne2 : (x == y) = true := by simp [hxy]
        clear hxy
        go_wp2
        go_quiet (fail)
        go_wp2
        go_roundw
        case rel => exact ⟨k + 1, by omega, rfl, by go_num, HX2, Lib.hid (below_drewN HK.out _)⟩
        case measure => simp [intOf]; omega
      · have HZ2 := Lib.hid (HZ.out hxy)
        have hne : (x != y) = true := by simp [hxy]
        have hne2 : (x == y) = false := by simp [hxy]
        clear hxy
        go_wp2
        go_quiet (fail)
        go_wp2
        go_ret
        exact ⟨by rw [HZ2.out]; rfl, below_drewN HK.out _⟩
    · obtain rfl : k = ws.length := by omega
      have HE := Lib.hid (show decide (ws = ys) = true from by rw [decide_eq_true_eq]; exact eq_of_getD HL.out HJ.out)
      go_wp2
      go_ret
      exact ⟨by rw [HE.out]; rfl, HK.out⟩

theorem texts_any (a b : Option Addr) (c d : Nat) (ws ys : List (List UInt8)) (w : World) (hA : Wds w a c ws) (hB : Wds w b d ys) :
    Calls Try.prog 57 #[.slice a ws.length c, .slice b ys.length d] w fun e W' => e = .returned (.bool (decide (ws = ys))) ∧ Below w.heap.size w W' := by
  by_cases hl : ws.length = ys.length
  · have := texts_same a b c d ws ys w hl hA hB
    rwa [show (.slice b ws.length d : Value) = .slice b ys.length d by rw [hl]] at this
  · rw [show decide (ws = ys) = false by rw [decide_eq_false_iff_not]; rintro rfl; exact hl rfl]
    exact texts_len a b _ _ c d w hl (Nat.le_trans hA.1 hA.2.1) (Nat.le_trans hB.1 hB.2.1)

set_option maxRecDepth 100000 in
set_option maxHeartbeats 2000000 in
theorem sameF_len (a b : Option Addr) (n m c d : Nat) (w : World) (h : n ≠ m) (hn : n ≤ 9223372036854775807) (hm : m ≤ 9223372036854775807) :
    Calls Try.prog 56 #[.slice a n c, .slice b m d] w fun e W' => e = .returned (.bool false) ∧ Below w.heap.size w W' := by
  have h1 : ((n : Int) != (m : Int)) = true := by rw [bne_iff_ne]; omega
  have h2 : (n : Int) ≤ 9223372036854775807 := by omega
  have h3 : (m : Int) ≤ 9223372036854775807 := by omega
  go_enter Try.func56, Try.ntmps56
  go_wp2
  go_ret
  exact ⟨rfl, Below.refl _ _⟩

set_option maxRecDepth 100000 in
set_option maxHeartbeats 2000000 in
theorem sameF_same (a b : Option Addr) (c d : Nat) (ws ys : List (List UInt8 × List UInt8)) (w : World) (hl : ws.length = ys.length) (hA : Fds w a c ws) (hB : Fds w b d ys) :
    Calls Try.prog 56 #[.slice a ws.length c, .slice b ws.length d] w fun e W' => e = .returned (.bool (decide (ws = ys))) ∧ Below w.heap.size w W' := by
  have hn : ws.length ≤ 9223372036854775807 := Nat.le_trans hA.1 hA.2.1
  have hnI : (ws.length : Int) ≤ 9223372036854775807 := by omega
  have HA := Lib.hid hA
  have HB := Lib.hid hB
  have HL := Lib.hid hl
  have h1 : ((ws.length : Int) != (ws.length : Int)) = false := by simp
  clear hA hB hl
  go_enter Try.func56, Try.ntmps56
  go_wp2
  go_loopw [4, 5] (fun r i wr => ∃ k : Nat, k ≤ ws.length ∧ r = .bool false ∧ i = .int .i64 k ∧ Hid (∀ j, j < k → ws.getD j ([], []) = ys.getD j ([], [])) ∧ Hid (Below w.heap.size w wr)) (fun _ i _ => ws.length - (intOf i).toNat)
  case atStart => exact ⟨0, Nat.zero_le _, rfl, rfl, Lib.hid (fun j h => by omega), Lib.hid (Below.refl _ _)⟩
  case round =>
    obtain ⟨k, hk, rfl, rfl, HJ, HK⟩ := hrel
    by_cases hlt : k < ws.length
    · obtain ⟨b1, o1, rfl, hb1, hc1⟩ := HA.out.get (by omega)
      obtain ⟨b2, o2, rfl, hb2, hc2⟩ := HB.out.get (by have := HL.out; omega)
      have q1 := (HK.out.cell (p := ⟨b1, o1 + k * 2, none⟩) hb1).trans (hc1 k hlt).1
      have q2 := (HK.out.cell (p := ⟨b1, o1 + k * 2 + 1, none⟩) hb1).trans (hc1 k hlt).2
      have q3 := (HK.out.cell (p := ⟨b2, o2 + k * 2, none⟩) hb2).trans (hc2 k (by have := HL.out; omega)).1
      have q4 := (HK.out.cell (p := ⟨b2, o2 + k * 2 + 1, none⟩) hb2).trans (hc2 k (by have := HL.out; omega)).2
      have k0 : (0 : Int) ≤ (k : Int) := by omega
      have k1 : (k : Int) < (ws.length : Int) := by omega
      have kT : ((k : Int)).toNat = k := by omega
      have HX := Lib.hid (show ws.getD k ([], []) = ys.getD k ([], []) → ∀ j, j < k + 1 → ws.getD j ([], []) = ys.getD j ([], []) from fun h j hj => by
        rcases Nat.lt_or_ge j k with h' | h'
        · exact HJ.out j h'
        · obtain rfl : j = k := by omega
          exact h)
      have HZ := Lib.hid (show ws.getD k ([], []) ≠ ys.getD k ([], []) → decide (ws = ys) = false from fun h => by rw [decide_eq_false_iff_not]; intro e; exact h (by rw [e]))
      clear hc1 hc2
      generalize ws.getD k ([], []) = x at *
      generalize ys.getD k ([], []) = y at *
      obtain ⟨x1, x2⟩ := x
      obtain ⟨y1, y2⟩ := y
      have hq := fun W => field_neq x1 x2 y1 y2 W
      simp only at q1 q2 q3 q4
      by_cases hxy : (x1, x2) = (y1, y2)
      · have HX2 := Lib.hid (HX.out hxy)
        rw [decide_eq_true hxy] at hq
        simp only [Bool.not_true] at hq
        clear hxy
        go_wp2
        go_quiet (fail)
        go_wp2
        go_roundw
        case rel => exact ⟨k + 1, by omega, rfl, by go_num, HX2, Lib.hid (below_drewN HK.out _)⟩
        case measure => simp [intOf]; omega
      · have HZ2 := Lib.hid (HZ.out hxy)
        rw [decide_eq_false hxy] at hq
        simp only [Bool.not_false] at hq
        clear hxy
        go_wp2
        go_quiet (fail)
        go_wp2
        go_ret
        exact ⟨by rw [HZ2.out]; rfl, below_drewN HK.out _⟩
    · obtain rfl : k = ws.length := by omega
      have HE := Lib.hid (show decide (ws = ys) = true from by rw [decide_eq_true_eq]; exact eq_of_getD HL.out HJ.out)
      go_wp2
      go_ret
      exact ⟨by rw [HE.out]; rfl, HK.out⟩

theorem sameF_any (a b : Option Addr) (c d : Nat) (ws ys : List (List UInt8 × List UInt8)) (w : World) (hA : Fds w a c ws) (hB : Fds w b d ys) :
    Calls Try.prog 56 #[.slice a ws.length c, .slice b ys.length d] w fun e W' => e = .returned (.bool (decide (ws = ys))) ∧ Below w.heap.size w W' := by
  by_cases hl : ws.length = ys.length
  · have := sameF_same a b c d ws ys w hl hA hB
    rwa [show (.slice b ws.length d : Value) = .slice b ys.length d by rw [hl]] at this
  · rw [show decide (ws = ys) = false by rw [decide_eq_false_iff_not]; rintro rfl; exact hl rfl]
    exact sameF_len a b _ _ c d w hl (Nat.le_trans hA.1 hA.2.1) (Nat.le_trans hB.1 hB.2.1)

end Go.Proofs.Ytihleddhjmejoaa
namespace Go.Proofs.Ytihleddhjmejoaa
open Go.RowKit Go.Shelf

set_option maxRecDepth 100000 in
set_option maxHeartbeats 4000000 in
theorem refSame_any (ka kb xa xb : Int) (sa sb : List UInt8) (aF bF : Option Addr) (cF dF : Nat) (fa fb : List (List UInt8 × List UInt8)) (aL bL : Option Addr) (cL dL : Nat) (wa wb : List (List UInt8)) (w : World) (hFa : Fds w aF cF fa) (hFb : Fds w bF dF fb) (hLa : Wds w aL cL wa) (hLb : Wds w bL dL wb) :
    Calls Try.prog 42 #[itv ka sa aF fa.length cF aL wa.length cL xa, itv kb sb bF fb.length dF bL wb.length dL xb] w fun e w' => e = .returned (.bool (It.sameB ⟨ka, sa, fa, wa, xa⟩ ⟨kb, sb, fb, wb, xb⟩)) ∧ Below w.heap.size w w' := by
  have hfc := fun W (h : Below w.heap.size w W) => sameF_any aF bF cF dF fa fb W (hFa.later h) (hFb.later h)
  have hlc := fun W (h : Below w.heap.size w W) => texts_any aL bL cL dL wa wb W (hLa.later h) (hLb.later h)
  by_cases hk : ka = kb
  rotate_left
  · rw [show It.sameB ⟨ka, sa, fa, wa, xa⟩ ⟨kb, sb, fb, wb, xb⟩ = false by simp [It.sameB, hk]]
    have ek : (ka == kb) = false := beq_eq_false_iff_ne.2 hk
    have HF := Lib.hid hfc
    have HL := Lib.hid hlc
    clear hfc hlc hFa hFb hLa hLb
    generalize fa.length = nFa at *
    generalize fb.length = nFb at *
    generalize wa.length = nLa at *
    generalize wb.length = nLb at *
    unfold itv
    go_enter Try.func42, Try.ntmps42
    go_wp2
    go_ret
    exact ⟨rfl, ((Below.refl _ w).alloc (Nat.le_refl _) _).alloc (by simp) _⟩
  subst hk
  by_cases hs : sa = sb
  rotate_left
  · rw [show It.sameB ⟨ka, sa, fa, wa, xa⟩ ⟨ka, sb, fb, wb, xb⟩ = false by simp [It.sameB, hs]]
    have es : (sa == sb) = false := beq_eq_false_iff_ne.2 hs
    have HF := Lib.hid hfc
    have HL := Lib.hid hlc
    clear hfc hlc hFa hFb hLa hLb
    generalize fa.length = nFa at *
    generalize fb.length = nFb at *
    generalize wa.length = nLa at *
    generalize wb.length = nLb at *
    unfold itv
    go_enter Try.func42, Try.ntmps42
    go_wp2
    go_ret
    exact ⟨rfl, ((Below.refl _ w).alloc (Nat.le_refl _) _).alloc (by simp) _⟩
  subst hs
  by_cases hx : xa = xb
  rotate_left
  · rw [show It.sameB ⟨ka, sa, fa, wa, xa⟩ ⟨ka, sa, fb, wb, xb⟩ = false by simp [It.sameB, hx]]
    have ex : (xa == xb) = false := beq_eq_false_iff_ne.2 hx
    have HF := Lib.hid hfc
    have HL := Lib.hid hlc
    clear hfc hlc hFa hFb hLa hLb
    generalize fa.length = nFa at *
    generalize fb.length = nFb at *
    generalize wa.length = nLa at *
    generalize wb.length = nLb at *
    unfold itv
    go_enter Try.func42, Try.ntmps42
    go_wp2
    go_ret
    exact ⟨rfl, ((Below.refl _ w).alloc (Nat.le_refl _) _).alloc (by simp) _⟩
  subst hx
  by_cases hf : fa = fb
  rotate_left
  · rw [show It.sameB ⟨ka, sa, fa, wa, xa⟩ ⟨ka, sa, fb, wb, xa⟩ = false by simp [It.sameB, hf]]
    rw [decide_eq_false hf] at hfc
    have HF := Lib.hid hfc
    have HL := Lib.hid hlc
    clear hfc hlc hFa hFb hLa hLb
    generalize fa.length = nFa at *
    generalize fb.length = nFb at *
    generalize wa.length = nLa at *
    generalize wb.length = nLb at *
    unfold itv
    go_enter Try.func42, Try.ntmps42
    go_wp2_with fail
    refine (HF.out _ (((Below.refl _ w).alloc (Nat.le_refl _) _).alloc (by simp) _)).mono ?_
    rintro e w1 ⟨rfl, hb⟩
    have HB1 : Hid (Below w.heap.size w w1) := Lib.hid ((((Below.refl _ w).alloc (Nat.le_refl _) _).alloc (by simp) _).trans (hb.mono (by simp; omega)))
    obtain ⟨hcl, -⟩ := bcell hb
    have hs1 := hb.size
    clear hb
    simp only [World.size_alloc] at hcl hs1
    have hz0 : w.heap.size < w1.heap.size := by omega
    have hz1 : w.heap.size + 1 < w1.heap.size := by omega
    go_wp2
    go_ret
    exact ⟨rfl, HB1.out⟩
  rw [decide_eq_true hf] at hfc
  by_cases hl : wa = wb
  rotate_left
  · rw [show It.sameB ⟨ka, sa, fa, wa, xa⟩ ⟨ka, sa, fb, wb, xa⟩ = false by simp [It.sameB, hl]]
    rw [decide_eq_false hl] at hlc
    have HF := Lib.hid hfc
    have HL := Lib.hid hlc
    clear hfc hlc hFa hFb hLa hLb
    generalize fa.length = nFa at *
    generalize fb.length = nFb at *
    generalize wa.length = nLa at *
    generalize wb.length = nLb at *
    unfold itv
    go_enter Try.func42, Try.ntmps42
    go_wp2_with fail
    refine (HF.out _ (((Below.refl _ w).alloc (Nat.le_refl _) _).alloc (by simp) _)).mono ?_
    rintro e w1 ⟨rfl, hb⟩
    have HB1 : Hid (Below w.heap.size w w1) := Lib.hid ((((Below.refl _ w).alloc (Nat.le_refl _) _).alloc (by simp) _).trans (hb.mono (by simp; omega)))
    obtain ⟨hcl, -⟩ := bcell hb
    have hs1 := hb.size
    clear hb
    simp only [World.size_alloc] at hcl hs1
    have hz0 : w.heap.size < w1.heap.size := by omega
    have hz1 : w.heap.size + 1 < w1.heap.size := by omega
    go_wp2_with fail
    refine (HL.out _ HB1.out).mono ?_
    rintro e w2 ⟨rfl, hb⟩
    have HB2 : Hid (Below w.heap.size w w2) := Lib.hid (HB1.out.trans (hb.mono (by omega)))
    obtain ⟨hcl2, -⟩ := bcell hb
    clear hb
    go_wp2
    go_ret
    exact ⟨rfl, HB2.out⟩
  rw [decide_eq_true hl] at hlc
  rw [show It.sameB ⟨ka, sa, fa, wa, xa⟩ ⟨ka, sa, fb, wb, xa⟩ = true by simp [It.sameB, hf, hl]]
  have HF := Lib.hid hfc
  have HL := Lib.hid hlc
  clear hfc hlc hFa hFb hLa hLb
  generalize fa.length = nFa at *
  generalize fb.length = nFb at *
  generalize wa.length = nLa at *
  generalize wb.length = nLb at *
  unfold itv
  go_enter Try.func42, Try.ntmps42
  go_wp2_with fail
  refine (HF.out _ (((Below.refl _ w).alloc (Nat.le_refl _) _).alloc (by simp) _)).mono ?_
  rintro e w1 ⟨rfl, hb⟩
  have HB1 : Hid (Below w.heap.size w w1) := Lib.hid ((((Below.refl _ w).alloc (Nat.le_refl _) _).alloc (by simp) _).trans (hb.mono (by simp; omega)))
  obtain ⟨hcl, -⟩ := bcell hb
  have hs1 := hb.size
  clear hb
  simp only [World.size_alloc] at hcl hs1
  have hz0 : w.heap.size < w1.heap.size := by omega
  have hz1 : w.heap.size + 1 < w1.heap.size := by omega
  go_wp2_with fail
  refine (HL.out _ HB1.out).mono ?_
  rintro e w2 ⟨rfl, hb⟩
  have HB2 : Hid (Below w.heap.size w w2) := Lib.hid (HB1.out.trans (hb.mono (by omega)))
  obtain ⟨hcl2, -⟩ := bcell hb
  clear hb
  go_wp2
  go_ret
  exact ⟨rfl, HB2.out⟩

end Go.Proofs.Ytihleddhjmejoaa
