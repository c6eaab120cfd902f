/- The walk of SetsCount: as many are together as each has, less what is in common. -/
import Derived.Test.YtekdmnecjgpokaaStLit
import Derived.Test.YtekdmnecjgpokaaStLaw
import Derived.Test.YtekdmnecjgpokaaStHas
import Derived.Test.YtekdmnecjgpokaaStCntPlain
namespace Go.Proofs.Ytekdmnecjgpokaa
open Go.RowKit Go.Shelf
set_option linter.unusedVariables false
set_option linter.unusedSimpArgs false

/-- a set of letters. -/
theorem setP_lett (ns : List UInt8) (h : ns.length ≤ 40) : SetP (St.ofS (St.lett ns)) ∧ (St.ofS (St.lett ns)).length ≤ 40 := by
  have h1 := St.of_len (St.lett ns)
  rw [St.lett_len] at h1
  refine ⟨⟨St.of_up _, fun s hs => ?_, by omega⟩, by omega⟩
  have := St.lett_ok ns s (St.mem_of.1 hs)
  show s.length ≤ 1000000
  omega
theorem lset_vs (p : Option Addr) (cap : Nat) (ns : List UInt8) (w : World) (hP : Bytes w p ns) (hl : ns.length ≤ 40) (A : List St.Bs) (hA : St.ofS (St.lett ns) = A) :
    Calls Try.prog 20 #[.slice p ns.length cap] w (VOut w A) := by
  subst hA
  refine (lset_any p cap ns w hP (by omega)).mono ?_
  rintro e W ⟨u, rfl, hr⟩
  exact hr.vs (setP_lett ns hl).1.2.1
theorem has_vs (W : World) (a : Option Addr) (c : Nat) (A : List St.Bs) (s : St.Bs) (p : Bool) (h : VS W a c A) (hA : SetP A) (hp : Mk.hasB A s = p) :
    Calls Try.prog 12 #[.slice a A.length c, .string ⟨s.toArray⟩] W fun e w' => e = .returned (.bool p) ∧ W = w' := by
  subst hp
  exact has_any a c A s W h.1 (by have := hA.2.2; omega) hA.1

set_option maxRecDepth 100000 in
set_option maxHeartbeats 8000000 in
theorem setsCount_walk (a0 : Option Addr) (cap0 : Nat) (z0 : List UInt8) (a1 : Option Addr) (cap1 : Nat) (z1 : List UInt8) (y : Int) (w : World) (w0 : Bytes w a0 z0) (w1 : Bytes w a1 z1) (l0 : z0.length ≤ 9223372036854775807) (l1 : z1.length ≤ 9223372036854775807) (hy0 : 0 ≤ y) (hy1 : y ≤ 255) :
    Calls Try.prog 5 #[.slice a0 z0.length cap0, .slice a1 z1.length cap1, .int .u8 y] w fun e w' => e = .returned (.bool true) ∧ Below w.heap.size w w' := by
  have HAW := Lib.hid (fun W => awake_any W)
  by_cases h0 : z0.length ≤ 40
  rotate_left
  · have d0 : (40 : Int) < (z0.length : Int) := by omega
    have d1 : (z0.length : Int) ≤ 9223372036854775807 := by omega
    clear h0 w0 w1
    go_enter Try.func5, Try.ntmps5
    go_wp2_with fail
    refine (HAW.out _).mono ?_
    rintro e w1 ⟨rfl, hb⟩
    have HB := Lib.hid hb
    clear hb
    go_wp2
    go_ret
    exact ⟨rfl, HB.out⟩
  by_cases h1 : z1.length ≤ 40
  rotate_left
  · have d0 : ¬ (40 : Int) < (z0.length : Int) := by omega
    have d1 : (40 : Int) < (z1.length : Int) := by omega
    have d2 : (z0.length : Int) ≤ 40 := by omega
    have d3 : (z1.length : Int) ≤ 9223372036854775807 := by omega
    clear h0 h1 w0 w1
    go_enter Try.func5, Try.ntmps5
    go_wp2_with fail
    refine (HAW.out _).mono ?_
    rintro e w1 ⟨rfl, hb⟩
    have HB := Lib.hid hb
    clear hb
    go_wp2
    go_ret
    exact ⟨rfl, HB.out⟩
  have d0 : ¬ (40 : Int) < (z0.length : Int) := by omega
  have d1 : ¬ (40 : Int) < (z1.length : Int) := by omega
  obtain ⟨A, hA⟩ : ∃ A, St.ofS (St.lett z0) = A := ⟨_, rfl⟩
  obtain ⟨B, hB⟩ : ∃ B, St.ofS (St.lett z1) = B := ⟨_, rfl⟩
  obtain ⟨sA, nA⟩ := setP_lett z0 h0
  obtain ⟨sB, nB⟩ := setP_lett z1 h1
  rw [hA] at sA nA
  rw [hB] at sB nB
  obtain ⟨U, hU⟩ : ∃ U, St.uniS [A, B] = U := ⟨_, rfl⟩
  obtain ⟨X, hX⟩ : ∃ X, St.bothS [A, B] = X := ⟨_, rfl⟩
  obtain ⟨M, hM⟩ : ∃ M, St.minS A [B] = M := ⟨_, rfl⟩
  have hSI := setsIn2 sA sB
  have hfl : [A, B].flatten.length ≤ 1000 := by simp; omega
  have sU := setP_uni hSI hfl
  have sX := setP_both hSI hfl
  have sM := setP_min (L := [B]) sA
  have e1 := St.cnt_min A B
  have e2 := St.cnt_uni sA.1 sB.1
  obtain ⟨sx, hsx⟩ : ∃ sx : List UInt8, [UInt8.ofNat (97 + y % 13).toNat] = sx := ⟨_, rfl⟩
  have e3 := St.has_uni A B sx
  have e4 := St.has_both A B sx
  rw [hU] at sU e2 e3
  rw [hX] at sX e1 e4
  rw [hM] at sM e1 e2
  have kc : ∀ W : World, (convert 35 9 (.slice (some ⟨W.heap.size, 0, none⟩) 1 1)).run Try.prog (W.alloc (.cells #[.int .u8 (97 + y % 13)] 5)) = .ok (.string ⟨sx.toArray⟩) (W.alloc (.cells #[.int .u8 (97 + y % 13)] 5)) := fun W => by
    rw [← hsx]
    exact conv1 W (97 + y % 13)
  have w1' : IntKind.u8.wrap (97 + y % 13) = 97 + y % 13 := by rw [IntKind.wrap_u8]; omega
  obtain ⟨pa, hpa⟩ : ∃ pa, Mk.hasB A sx = pa := ⟨_, rfl⟩
  obtain ⟨pb, hpb⟩ : ∃ pb, Mk.hasB B sx = pb := ⟨_, rfl⟩
  rw [hpa, hpb] at e3 e4
  have HSA := Lib.hid sA
  have HSB := Lib.hid sB
  have HSU := Lib.hid sU
  have HSX := Lib.hid sX
  have HSM := Lib.hid sM
  have HPA := Lib.hid hpa
  have HPB := Lib.hid hpb
  have HPU := Lib.hid e3
  have HPX := Lib.hid e4
  have HLA := Lib.hid (lset_vs a0 cap0 z0 w w0 h0 A hA)
  have HLB := Lib.hid (fun W (hb : Below w.heap.size w W) => lset_vs a1 cap1 z1 W (w1.later hb) h1 B hB)
  have HUn := Lib.hid (fun W b0 b1 c0 c1 h h' => union2 W b0 b1 c0 c1 A B U h h' sA sB hU)
  have HBo := Lib.hid (fun W b0 b1 c0 c1 h h' => both2 W b0 b1 c0 c1 A B X h h' sA sB hX)
  have HMi := Lib.hid (fun W b0 b1 c0 c1 h h' => minus1 W b0 b1 c0 c1 A B M h h' sA sB hM)
  have iA : (A.length : Int) ≤ 1000 := by omega
  have iB : (B.length : Int) ≤ 1000 := by omega
  have iU : (U.length : Int) ≤ 1000 := by have := sU.2.2; omega
  have iX : (X.length : Int) ≤ 1000 := by have := sX.2.2; omega
  have iM : (M.length : Int) ≤ 1000 := by have := sM.2.2; omega
  have t1 : ((U.length : Int) == (A.length : Int) + (B.length : Int) - (X.length : Int)) = true := by rw [beq_iff_eq]; omega
  have t2 : ((M.length : Int) == (A.length : Int) - (X.length : Int)) = true := by rw [beq_iff_eq]; omega
  clear sA sB sU sX sM hpa hpb e1 e2 e3 e4 hSI hfl hA hB hU hX hM hsx w0 w1 nA nB
  go_enter Try.func5, Try.ntmps5
  go_wp2_with fail
  refine HLA.out.mono ?_
  rintro e w2 ⟨b0, c0, rfl, hv0, hb⟩
  have HV0 := Lib.hid hv0
  have HB := Lib.hid hb
  clear hv0 hb
  go_wp2_with fail
  refine (HLB.out _ HB.out).mono ?_
  rintro e w3 ⟨b1, c1, rfl, hv1, hb⟩
  replace HV0 := Lib.hid (HV0.out.later hb)
  have HV1 := Lib.hid hv1
  replace HB := Lib.hid (HB.out.trans (hb.mono HB.out.size))
  clear hv1 hb
  go_wp2_with fail
  have hBa : Below w3.heap.size w3 (w3.alloc (.cells #[.int .u8 (97 + y % 13)] 5)) := (Below.refl _ _).alloc (Nat.le_refl _) _
  have hu := HUn.out (w3.alloc (.cells #[.int .u8 (97 + y % 13)] 5)) b0 b1 c0 c1 (HV0.out.later hBa) (HV1.out.later hBa)
  rw [World.size_alloc] at hu
  refine hu.mono ?_
  rintro e w4 ⟨b2, c2, rfl, hv2, hb⟩
  have hb := hBa.trans (hb.mono hBa.size)
  replace HV0 := Lib.hid (HV0.out.later hb)
  replace HV1 := Lib.hid (HV1.out.later hb)
  have HV2 := Lib.hid hv2
  replace HB := Lib.hid (HB.out.trans (hb.mono HB.out.size))
  clear hv2 hb hu hBa
  go_wp2_with fail
  refine (HBo.out w4 b0 b1 c0 c1 HV0.out HV1.out).mono ?_
  rintro e w5 ⟨b3, c3, rfl, hv3, hb⟩
  replace HV0 := Lib.hid (HV0.out.later hb)
  replace HV1 := Lib.hid (HV1.out.later hb)
  replace HV2 := Lib.hid (HV2.out.later hb)
  have HV3 := Lib.hid hv3
  replace HB := Lib.hid (HB.out.trans (hb.mono HB.out.size))
  clear hv3 hb
  go_wp2_with fail
  refine (HMi.out w5 b0 b1 c0 c1 HV0.out HV1.out).mono ?_
  rintro e w6 ⟨b4, c4, rfl, hv4, hb⟩
  replace HV0 := Lib.hid (HV0.out.later hb)
  replace HV1 := Lib.hid (HV1.out.later hb)
  replace HV2 := Lib.hid (HV2.out.later hb)
  replace HV3 := Lib.hid (HV3.out.later hb)
  replace HB := Lib.hid (HB.out.trans (hb.mono HB.out.size))
  clear hv4 hb kc w1'
  have HHA := Lib.hid (has_vs w6 b0 c0 A sx pa HV0.out HSA.out HPA.out)
  have HHB := Lib.hid (has_vs w6 b1 c1 B sx pb HV1.out HSB.out HPB.out)
  have HHU := Lib.hid (has_vs w6 b2 c2 U sx (pa || pb) HV2.out HSU.out HPU.out)
  have HHX := Lib.hid (has_vs w6 b3 c3 X sx (pa && pb) HV3.out HSX.out HPX.out)
  clear HPA HPB HPU HPX HV0 HV1 HV2 HV3 HSA HSB HSU HSX HSM HUn HBo HMi HLA HLB
  cases pa <;> cases pb
  all_goals
    simp only [Bool.or_true, Bool.or_false, Bool.and_true, Bool.and_false, Bool.true_or, Bool.false_and] at HHU HHX
    go_wp2_with (first
      | (go_at_call 12; ((with_reducible refine HHU.out.mono ?_); rintro e w7 ⟨rfl, rfl⟩))
      | (go_at_call 12; ((with_reducible refine HHA.out.mono ?_); rintro e w7 ⟨rfl, rfl⟩))
      | (go_at_call 12; ((with_reducible refine HHB.out.mono ?_); rintro e w7 ⟨rfl, rfl⟩))
      | (go_at_call 12; ((with_reducible refine HHX.out.mono ?_); rintro e w7 ⟨rfl, rfl⟩))
      | (go_at_call 7; (refine (HAW.out _).mono ?_; rintro e w7 ⟨rfl, hb⟩; have HB7 := Lib.hid hb; clear hb)))
    go_ret
    exact ⟨rfl, HB.out.trans (HB7.out.mono HB.out.size)⟩
end Go.Proofs.Ytekdmnecjgpokaa
