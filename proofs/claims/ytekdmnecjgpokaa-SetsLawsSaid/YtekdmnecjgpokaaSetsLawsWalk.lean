/- The walk of SetsLaws: together and in common do not hang on the order; without and in common make the whole. -/
import Derived.Test.YtekdmnecjgpokaaSetsCountWalk
import Derived.Test.YtekdmnecjgpokaaLsTexts
namespace Go.Proofs.Ytekdmnecjgpokaa
open Go.RowKit Go.Shelf
set_option linter.unusedVariables false
set_option linter.unusedSimpArgs false

namespace St
open Mk
theorem uni_turn (A B C : List Bs) : uniS [C, A, B] = uniS [A, B, C] := up_ext (uni_up _) (uni_up _) fun x => by
  rw [mem_uni, mem_uni]
  simp
  constructor
  · rintro (h | h | h)
    · exact .inr (.inr h)
    · exact .inl h
    · exact .inr (.inl h)
  · rintro (h | h | h)
    · exact .inr (.inl h)
    · exact .inr (.inr h)
    · exact .inl h
theorem both_turn {A B C : List Bs} (ha : upS A) (hc : upS C) : bothS [C, B, A] = bothS [A, B, C] := up_ext (up_filter hc _) (up_filter ha _) fun x => by
  show x ∈ bothS [C, B, A] ↔ x ∈ bothS [A, B, C]
  rw [mem_both, mem_both]
  simp
  constructor
  · rintro ⟨h1, h2, h3⟩
    exact ⟨h3, h2, h1⟩
  · rintro ⟨h1, h2, h3⟩
    exact ⟨h3, h2, h1⟩
theorem whole {A B C : List Bs} (ha : upS A) : uniS [minS A [B, C], bothS [A, uniS [B, C]]] = A := up_ext (uni_up _) ha fun x => by
  rw [mem_uni]
  simp only [List.mem_cons, List.not_mem_nil, or_false, exists_eq_or_imp, exists_eq_left, mem_min, mem_both, mem_uni]
  constructor
  · rintro (h | h)
    · exact h.1
    · exact h.1
  · intro h
    by_cases hb : x ∈ B
    · exact .inr ⟨h, fun l hl => by subst hl; exact mem_uni.2 ⟨B, by simp, hb⟩⟩
    · by_cases hc : x ∈ C
      · exact .inr ⟨h, fun l hl => by subst hl; exact mem_uni.2 ⟨C, by simp, hc⟩⟩
      · exact .inl ⟨h, fun l hl => by
          rcases hl with rfl | rfl
          · exact hb
          · exact hc⟩
theorem apart (A B : List Bs) : bothS [minS A [B], B] = [] := by
  apply List.eq_nil_iff_forall_not_mem.2
  intro x hx
  rw [mem_both, mem_min] at hx
  exact hx.1.2 B (by simp) (hx.2 B (by simp))
theorem min_nil (A : List Bs) : minS A [] = A := by simp [minS]
end St

set_option maxRecDepth 100000 in
set_option maxHeartbeats 8000000 in
theorem setsLaws_walk (a0 : Option Addr) (cap0 : Nat) (z0 : List UInt8) (a1 : Option Addr) (cap1 : Nat) (z1 : List UInt8) (a2 : Option Addr) (cap2 : Nat) (z2 : List UInt8) (w : World) (w0 : Bytes w a0 z0) (w1 : Bytes w a1 z1) (w2 : Bytes w a2 z2) (l0 : z0.length ≤ 9223372036854775807) (l1 : z1.length ≤ 9223372036854775807) (l2 : z2.length ≤ 9223372036854775807) :
    Calls Try.prog 4 #[.slice a0 z0.length cap0, .slice a1 z1.length cap1, .slice a2 z2.length cap2] w fun e w' => e = .returned (.bool true) ∧ Below w.heap.size w w' := by
  have HAW := Lib.hid (fun W => awake_any W)
  by_cases h0 : z0.length ≤ 40
  rotate_left
  · have d0 : (40 : Int) < (z0.length : Int) := by omega
    have f0 : (z0.length : Int) ≤ 9223372036854775807 := by omega
    clear h0 w0 w1 w2
    go_enter Try.func4, Try.ntmps4
    go_wp2_with fail
    refine (HAW.out _).mono ?_
    rintro e w1 ⟨rfl, hb⟩
    have HB := Lib.hid hb
    clear hb
    go_wp2
    go_ret
    exact ⟨rfl, HB.out⟩
  by_cases h1 : z1.length ≤ 40
  rotate_left
  · have d0 : ¬ (40 : Int) < (z0.length : Int) := by omega
    have f0 : (z0.length : Int) ≤ 40 := by omega
    have d1 : (40 : Int) < (z1.length : Int) := by omega
    have f1 : (z1.length : Int) ≤ 9223372036854775807 := by omega
    clear h0 h1 w0 w1 w2
    go_enter Try.func4, Try.ntmps4
    go_wp2_with fail
    refine (HAW.out _).mono ?_
    rintro e w1 ⟨rfl, hb⟩
    have HB := Lib.hid hb
    clear hb
    go_wp2
    go_ret
    exact ⟨rfl, HB.out⟩
  by_cases h2 : z2.length ≤ 40
  rotate_left
  · have d0 : ¬ (40 : Int) < (z0.length : Int) := by omega
    have f0 : (z0.length : Int) ≤ 40 := by omega
    have d1 : ¬ (40 : Int) < (z1.length : Int) := by omega
    have f1 : (z1.length : Int) ≤ 40 := by omega
    have d2 : (40 : Int) < (z2.length : Int) := by omega
    have f2 : (z2.length : Int) ≤ 9223372036854775807 := by omega
    clear h0 h1 h2 w0 w1 w2
    go_enter Try.func4, Try.ntmps4
    go_wp2_with fail
    refine (HAW.out _).mono ?_
    rintro e w1 ⟨rfl, hb⟩
    have HB := Lib.hid hb
    clear hb
    go_wp2
    go_ret
    exact ⟨rfl, HB.out⟩
  have d0 : ¬ (40 : Int) < (z0.length : Int) := by omega
  have d1 : ¬ (40 : Int) < (z1.length : Int) := by omega
  have d2 : ¬ (40 : Int) < (z2.length : Int) := by omega
  have f0 : (z0.length : Int) ≤ 40 := by omega
  have f1 : (z1.length : Int) ≤ 40 := by omega
  have f2 : (z2.length : Int) ≤ 40 := by omega
  obtain ⟨A, hA⟩ : ∃ A, St.ofS (St.lett z0) = A := ⟨_, rfl⟩
  obtain ⟨B, hB⟩ : ∃ B, St.ofS (St.lett z1) = B := ⟨_, rfl⟩
  obtain ⟨C, hC⟩ : ∃ C, St.ofS (St.lett z2) = C := ⟨_, rfl⟩
  obtain ⟨sA, nA⟩ := setP_lett z0 h0
  obtain ⟨sB, nB⟩ := setP_lett z1 h1
  obtain ⟨sC, nC⟩ := setP_lett z2 h2
  rw [hA] at sA nA
  rw [hB] at sB nB
  rw [hC] at sC nC
  obtain ⟨U, hU⟩ : ∃ U, St.uniS [A, B, C] = U := ⟨_, rfl⟩
  obtain ⟨X, hX⟩ : ∃ X, St.bothS [A, B, C] = X := ⟨_, rfl⟩
  obtain ⟨M, hM⟩ : ∃ M, St.minS A [B, C] = M := ⟨_, rfl⟩
  obtain ⟨V, hV⟩ : ∃ V, St.uniS [B, C] = V := ⟨_, rfl⟩
  obtain ⟨N, hN⟩ : ∃ N, St.bothS [A, V] = N := ⟨_, rfl⟩
  obtain ⟨M2, hM2⟩ : ∃ M2, St.minS A [B] = M2 := ⟨_, rfl⟩
  have hU' : St.uniS [C, A, B] = U := by rw [← hU]; exact St.uni_turn A B C
  have hX' : St.bothS [C, B, A] = X := by rw [← hX]; exact St.both_turn sA.1 sC.1
  have hW' : St.uniS [M, N] = A := by rw [← hM, ← hN, ← hV]; exact St.whole sA.1
  have hE' : St.bothS [M2, B] = [] := by rw [← hM2]; exact St.apart A B
  have sM : SetP M := by rw [← hM]; exact setP_min sA
  have sV : SetP V := by rw [← hV]; exact setP_uni (setsIn2 sB sC) (by simp; omega)
  have nV : V.length ≤ 80 := by
    have := St.uni_len [B, C]
    rw [hV] at this
    simp at this
    omega
  have sN : SetP N := by rw [← hN]; exact setP_both (setsIn2 sA sV) (by simp; omega)
  have sM2 : SetP M2 := by rw [← hM2]; exact setP_min sA
  have HLA := Lib.hid (lset_vs a0 cap0 z0 w w0 h0 A hA)
  have HLB := Lib.hid (fun W (hb : Below w.heap.size w W) => lset_vs a1 cap1 z1 W (w1.later hb) h1 B hB)
  have HLC := Lib.hid (fun W (hb : Below w.heap.size w W) => lset_vs a2 cap2 z2 W (w2.later hb) h2 C hC)
  have HU1 := Lib.hid (fun W b0 b1 b2 c0 c1 c2 h h' h'' => union3 W b0 b1 b2 c0 c1 c2 A B C U h h' h'' sA sB sC hU)
  have HU2 := Lib.hid (fun W b0 b1 b2 c0 c1 c2 h h' h'' => union3 W b0 b1 b2 c0 c1 c2 C A B U h h' h'' sC sA sB hU')
  have HX1 := Lib.hid (fun W b0 b1 b2 c0 c1 c2 h h' h'' => both3 W b0 b1 b2 c0 c1 c2 A B C X h h' h'' sA sB sC hX)
  have HX2 := Lib.hid (fun W b0 b1 b2 c0 c1 c2 h h' h'' => both3 W b0 b1 b2 c0 c1 c2 C B A X h h' h'' sC sB sA hX')
  have HM1 := Lib.hid (fun W b0 b1 b2 c0 c1 c2 h h' h'' => minus2 W b0 b1 b2 c0 c1 c2 A B C M h h' h'' sA sB sC hM)
  have HV1 := Lib.hid (fun W b0 b1 c0 c1 h h' => union2 W b0 b1 c0 c1 B C V h h' sB sC hV)
  have HN1 := Lib.hid (fun W b0 b1 c0 c1 h h' => both2 W b0 b1 c0 c1 A V N h h' sA sV hN)
  have HW1 := Lib.hid (fun W b0 b1 c0 c1 h h' => union2 W b0 b1 c0 c1 M N A h h' sM sN hW')
  have HM2 := Lib.hid (fun W b0 b1 c0 c1 h h' => minus1 W b0 b1 c0 c1 A B M2 h h' sA sB hM2)
  have HE1 := Lib.hid (fun W b0 b1 c0 c1 h h' => both2 W b0 b1 c0 c1 M2 B [] h h' sM2 sB hE')
  have HB1 := Lib.hid (fun W b0 c0 h => both1 W b0 c0 A A h sA (St.both_one A))
  have HZ1 := Lib.hid (fun W b0 c0 h => minus0 W b0 c0 A A h sA (St.min_nil A))
  clear sA sB sC sM sV sN sM2 hA hB hC hU hX hM hV hN hM2 hU' hX' hW' hE' nA nB nC nV w0 w1 w2
  go_enter Try.func4, Try.ntmps4
  have HB := Lib.hid (Below.refl w.heap.size w)
  go_wp2_with fail
  refine (HLA.out).mono ?_
  rintro e w3 ⟨bA, cA, rfl, hv, hb⟩
  have HV_A := Lib.hid hv
  replace HB := Lib.hid (HB.out.trans (hb.mono HB.out.size))
  clear hv hb
  go_wp2_with fail
  refine (HLB.out w3 HB.out).mono ?_
  rintro e w4 ⟨bB, cB, rfl, hv, hb⟩
  replace HV_A := Lib.hid (HV_A.out.later hb)
  have HV_B := Lib.hid hv
  replace HB := Lib.hid (HB.out.trans (hb.mono HB.out.size))
  clear hv hb
  go_wp2_with fail
  refine (HLC.out w4 HB.out).mono ?_
  rintro e w5 ⟨bC, cC, rfl, hv, hb⟩
  replace HV_A := Lib.hid (HV_A.out.later hb)
  replace HV_B := Lib.hid (HV_B.out.later hb)
  have HV_C := Lib.hid hv
  replace HB := Lib.hid (HB.out.trans (hb.mono HB.out.size))
  clear hv hb
  go_wp2_with fail
  refine (HU1.out w5 bA bB bC cA cB cC HV_A.out HV_B.out HV_C.out).mono ?_
  rintro e w6 ⟨bu1, cu1, rfl, hv, hb⟩
  replace HV_A := Lib.hid (HV_A.out.later hb)
  replace HV_B := Lib.hid (HV_B.out.later hb)
  replace HV_C := Lib.hid (HV_C.out.later hb)
  have HV_u1 := Lib.hid hv
  replace HB := Lib.hid (HB.out.trans (hb.mono HB.out.size))
  clear hv hb
  go_wp2_with fail
  refine (HU2.out w6 bC bA bB cC cA cB HV_C.out HV_A.out HV_B.out).mono ?_
  rintro e w7 ⟨bu2, cu2, rfl, hv, hb⟩
  replace HV_A := Lib.hid (HV_A.out.later hb)
  replace HV_B := Lib.hid (HV_B.out.later hb)
  replace HV_C := Lib.hid (HV_C.out.later hb)
  replace HV_u1 := Lib.hid (HV_u1.out.later hb)
  have HV_u2 := Lib.hid hv
  replace HB := Lib.hid (HB.out.trans (hb.mono HB.out.size))
  clear hv hb
  go_wp2_with fail
  refine (texts_any _ _ _ _ _ _ w7 HV_u1.out.1 HV_u2.out.1).mono ?_
  rintro e w8 ⟨rfl, hb⟩
  clear HV_u1 HV_u2
  replace HV_A := Lib.hid (HV_A.out.later hb)
  replace HV_B := Lib.hid (HV_B.out.later hb)
  replace HV_C := Lib.hid (HV_C.out.later hb)
  replace HB := Lib.hid (HB.out.trans (hb.mono HB.out.size))
  clear hb
  simp only [decide_true]
  go_wp2_with fail
  refine (HX1.out w8 bA bB bC cA cB cC HV_A.out HV_B.out HV_C.out).mono ?_
  rintro e w9 ⟨bx1, cx1, rfl, hv, hb⟩
  replace HV_A := Lib.hid (HV_A.out.later hb)
  replace HV_B := Lib.hid (HV_B.out.later hb)
  replace HV_C := Lib.hid (HV_C.out.later hb)
  have HV_x1 := Lib.hid hv
  replace HB := Lib.hid (HB.out.trans (hb.mono HB.out.size))
  clear hv hb
  go_wp2_with fail
  refine (HX2.out w9 bC bB bA cC cB cA HV_C.out HV_B.out HV_A.out).mono ?_
  rintro e w10 ⟨bx2, cx2, rfl, hv, hb⟩
  replace HV_A := Lib.hid (HV_A.out.later hb)
  replace HV_B := Lib.hid (HV_B.out.later hb)
  replace HV_C := Lib.hid (HV_C.out.later hb)
  replace HV_x1 := Lib.hid (HV_x1.out.later hb)
  have HV_x2 := Lib.hid hv
  replace HB := Lib.hid (HB.out.trans (hb.mono HB.out.size))
  clear hv hb
  go_wp2_with fail
  refine (texts_any _ _ _ _ _ _ w10 HV_x1.out.1 HV_x2.out.1).mono ?_
  rintro e w11 ⟨rfl, hb⟩
  clear HV_x1 HV_x2
  replace HV_A := Lib.hid (HV_A.out.later hb)
  replace HV_B := Lib.hid (HV_B.out.later hb)
  replace HV_C := Lib.hid (HV_C.out.later hb)
  replace HB := Lib.hid (HB.out.trans (hb.mono HB.out.size))
  clear hb
  simp only [decide_true]
  go_wp2_with fail
  refine (HM1.out w11 bA bB bC cA cB cC HV_A.out HV_B.out HV_C.out).mono ?_
  rintro e w12 ⟨bm1, cm1, rfl, hv, hb⟩
  replace HV_A := Lib.hid (HV_A.out.later hb)
  replace HV_B := Lib.hid (HV_B.out.later hb)
  replace HV_C := Lib.hid (HV_C.out.later hb)
  have HV_m1 := Lib.hid hv
  replace HB := Lib.hid (HB.out.trans (hb.mono HB.out.size))
  clear hv hb
  go_wp2_with fail
  refine (HV1.out w12 bB bC cB cC HV_B.out HV_C.out).mono ?_
  rintro e w13 ⟨bv1, cv1, rfl, hv, hb⟩
  replace HV_A := Lib.hid (HV_A.out.later hb)
  replace HV_B := Lib.hid (HV_B.out.later hb)
  replace HV_C := Lib.hid (HV_C.out.later hb)
  replace HV_m1 := Lib.hid (HV_m1.out.later hb)
  have HV_v1 := Lib.hid hv
  replace HB := Lib.hid (HB.out.trans (hb.mono HB.out.size))
  clear hv hb
  go_wp2_with fail
  refine (HN1.out w13 bA bv1 cA cv1 HV_A.out HV_v1.out).mono ?_
  rintro e w14 ⟨bn1, cn1, rfl, hv, hb⟩
  clear HV_v1
  replace HV_A := Lib.hid (HV_A.out.later hb)
  replace HV_B := Lib.hid (HV_B.out.later hb)
  replace HV_C := Lib.hid (HV_C.out.later hb)
  replace HV_m1 := Lib.hid (HV_m1.out.later hb)
  have HV_n1 := Lib.hid hv
  replace HB := Lib.hid (HB.out.trans (hb.mono HB.out.size))
  clear hv hb
  go_wp2_with fail
  refine (HW1.out w14 bm1 bn1 cm1 cn1 HV_m1.out HV_n1.out).mono ?_
  rintro e w15 ⟨bp1, cp1, rfl, hv, hb⟩
  clear HV_m1 HV_n1
  replace HV_A := Lib.hid (HV_A.out.later hb)
  replace HV_B := Lib.hid (HV_B.out.later hb)
  replace HV_C := Lib.hid (HV_C.out.later hb)
  have HV_p1 := Lib.hid hv
  replace HB := Lib.hid (HB.out.trans (hb.mono HB.out.size))
  clear hv hb
  go_wp2_with fail
  refine (texts_any _ _ _ _ _ _ w15 HV_p1.out.1 HV_A.out.1).mono ?_
  rintro e w16 ⟨rfl, hb⟩
  clear HV_p1
  replace HV_A := Lib.hid (HV_A.out.later hb)
  replace HV_B := Lib.hid (HV_B.out.later hb)
  replace HV_C := Lib.hid (HV_C.out.later hb)
  replace HB := Lib.hid (HB.out.trans (hb.mono HB.out.size))
  clear hb
  simp only [decide_true]
  go_wp2_with fail
  refine (HM2.out w16 bA bB cA cB HV_A.out HV_B.out).mono ?_
  rintro e w17 ⟨bm2, cm2, rfl, hv, hb⟩
  replace HV_A := Lib.hid (HV_A.out.later hb)
  replace HV_B := Lib.hid (HV_B.out.later hb)
  replace HV_C := Lib.hid (HV_C.out.later hb)
  have HV_m2 := Lib.hid hv
  replace HB := Lib.hid (HB.out.trans (hb.mono HB.out.size))
  clear hv hb
  go_wp2_with fail
  refine (HE1.out w17 bm2 bB cm2 cB HV_m2.out HV_B.out).mono ?_
  rintro e w18 ⟨be1, ce1, rfl, hv, hb⟩
  clear HV_m2
  replace HV_A := Lib.hid (HV_A.out.later hb)
  replace HV_B := Lib.hid (HV_B.out.later hb)
  replace HV_C := Lib.hid (HV_C.out.later hb)
  have HV_e1 := Lib.hid hv
  replace HB := Lib.hid (HB.out.trans (hb.mono HB.out.size))
  clear hv hb
  go_wp2_with fail
  refine (HB1.out w18 bA cA HV_A.out).mono ?_
  rintro e w19 ⟨bq1, cq1, rfl, hv, hb⟩
  replace HV_A := Lib.hid (HV_A.out.later hb)
  replace HV_B := Lib.hid (HV_B.out.later hb)
  replace HV_C := Lib.hid (HV_C.out.later hb)
  replace HV_e1 := Lib.hid (HV_e1.out.later hb)
  have HV_q1 := Lib.hid hv
  replace HB := Lib.hid (HB.out.trans (hb.mono HB.out.size))
  clear hv hb
  go_wp2_with fail
  refine (texts_any _ _ _ _ _ _ w19 HV_q1.out.1 HV_A.out.1).mono ?_
  rintro e w20 ⟨rfl, hb⟩
  clear HV_q1
  replace HV_A := Lib.hid (HV_A.out.later hb)
  replace HV_B := Lib.hid (HV_B.out.later hb)
  replace HV_C := Lib.hid (HV_C.out.later hb)
  replace HV_e1 := Lib.hid (HV_e1.out.later hb)
  replace HB := Lib.hid (HB.out.trans (hb.mono HB.out.size))
  clear hb
  simp only [decide_true]
  go_wp2_with fail
  refine (HZ1.out w20 bA cA HV_A.out).mono ?_
  rintro e w21 ⟨br1, cr1, rfl, hv, hb⟩
  replace HV_A := Lib.hid (HV_A.out.later hb)
  replace HV_B := Lib.hid (HV_B.out.later hb)
  replace HV_C := Lib.hid (HV_C.out.later hb)
  replace HV_e1 := Lib.hid (HV_e1.out.later hb)
  have HV_r1 := Lib.hid hv
  replace HB := Lib.hid (HB.out.trans (hb.mono HB.out.size))
  clear hv hb
  go_wp2_with fail
  refine (texts_any _ _ _ _ _ _ w21 HV_r1.out.1 HV_A.out.1).mono ?_
  rintro e w22 ⟨rfl, hb⟩
  clear HV_r1
  replace HV_A := Lib.hid (HV_A.out.later hb)
  replace HV_B := Lib.hid (HV_B.out.later hb)
  replace HV_C := Lib.hid (HV_C.out.later hb)
  replace HV_e1 := Lib.hid (HV_e1.out.later hb)
  replace HB := Lib.hid (HB.out.trans (hb.mono HB.out.size))
  clear hb
  simp only [decide_true]
  go_wp2_with fail
  refine (HAW.out w22).mono ?_
  rintro e we ⟨rfl, hb⟩
  have HE := Lib.hid (HB.out.trans (hb.mono HB.out.size))
  clear hb
  go_wp2
  go_ret
  exact ⟨rfl, HE.out⟩
end Go.Proofs.Ytekdmnecjgpokaa
