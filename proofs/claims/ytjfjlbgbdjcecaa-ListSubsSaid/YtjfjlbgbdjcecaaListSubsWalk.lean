/- The walk of ListSubs: parts side by side are the row; a part of a part is a part. -/
import Derived.Test.YtjfjlbgbdjcecaaLsRef
import Derived.Test.YtjfjlbgbdjcecaaLsTexts
import Derived.Test.YtjfjlbgbdjcecaaLsLetters
import Derived.Test.YtjfjlbgbdjcecaaLsSubPlain
namespace Go.Proofs.Ytjfjlbgbdjcecaa
open Go.RowKit Go.Shelf
set_option linter.unusedVariables false
set_option linter.unusedSimpArgs false

/-- list.Sub of letters, its outcome named. -/
theorem sub_at {a : Option Addr} {cap : Nat} {l : List Ls.Bs} {W : World} (hF : Wds W a cap l) (hn : l.length ≤ 1000) (ho : ∀ s ∈ l, s.length ≤ 1000) (x y : Int) (hx : -1000000 ≤ x ∧ x ≤ 1000000) (hy : -1000000 ≤ y ∧ y ≤ 1000000) {r : List Ls.Bs} (hr : Ls.subS l x y = r) :
    Calls Try.prog 19 #[.slice a l.length cap, .int .i64 x, .int .i64 y] W fun e W' => ∃ b d, e = .returned (.slice b r.length d) ∧ Wds W' b d r ∧ (b = none → d = 0) ∧ Below W.heap.size W W' := by
  refine (sub_any a cap l x y W hF (by omega) (by omega) (by omega) (by omega) (by omega) (fun s hs => by have := ho s hs; omega)).mono ?_
  rintro e W' ⟨u, rfl, hrow⟩
  rw [hr] at hrow
  obtain ⟨b, d, rfl, hw, hnd⟩ := hrow.open_ (fun s hs => by have := ho s (Ls.subS_mem (hr ▸ hs)); omega)
  exact ⟨b, d, rfl, hw, hnd, hrow.2⟩

set_option maxRecDepth 100000 in
set_option maxHeartbeats 16000000 in
theorem listSubs_walk (p : Option Addr) (cp : Nat) (ns : List UInt8) (A B : Nat) (w : World) (hP : Bytes w p ns) (hl : ns.length ≤ 9223372036854775807) (hA : A ≤ 255) (hB : B ≤ 255) :
    Calls Try.prog 7 #[.slice p ns.length cp, .int .u8 (A : Int), .int .u8 (B : Int)] w fun e W => e = .returned (.bool true) ∧ Below w.heap.size w W := by
  have hawk : ∀ W, Below w.heap.size w W → Calls Try.prog 9 #[] W fun e W' => e = .returned (.bool true) ∧ Below w.heap.size w W' := fun W h => (awake_any W).mono fun e W' ⟨he, hb⟩ => ⟨he, h.trans (hb.mono h.size)⟩
  have HAW := Lib.hid hawk
  have HP := Lib.hid hP
  have hlI : (ns.length : Int) ≤ 9223372036854775807 := by omega
  clear hawk hP
  go_enter Try.func7, Try.ntmps7
  by_cases hok : 1 ≤ ns.length ∧ ns.length ≤ 60
  rotate_left
  · by_cases h1 : 1 ≤ ns.length
    · have d1 : ((ns.length : Int) == 0) = false := by rw [beq_eq_false_iff_ne]; omega
      have d2 : (60 : Int) < (ns.length : Int) := by
        by_cases h2 : ns.length ≤ 60
        · exact (hok ⟨h1, h2⟩).elim
        · omega
      clear hok h1
      go_wp2_with fail
      refine (HAW.out w (Below.refl _ _)).mono ?_
      rintro e w2 ⟨rfl, hb⟩
      have HB2 := Lib.hid hb
      clear hb
      go_wp2_with fail
      go_ret
      exact ⟨rfl, HB2.out⟩
    · have d1 : ((ns.length : Int) == 0) = true := by rw [beq_iff_eq]; omega
      clear hok h1
      go_wp2_with fail
      refine (HAW.out w (Below.refl _ _)).mono ?_
      rintro e w2 ⟨rfl, hb⟩
      have HB2 := Lib.hid hb
      clear hb
      go_wp2_with fail
      go_ret
      exact ⟨rfl, HB2.out⟩
  obtain ⟨hn1, hn6⟩ := hok
  have d1 : ((ns.length : Int) == 0) = false := by rw [beq_eq_false_iff_ne]; omega
  have d2 : ¬ (60 : Int) < (ns.length : Int) := by omega
  have HLT := Lib.hid (letters_any p cp ns w HP.out (by omega))
  go_wp2_with fail
  refine HLT.out.mono ?_
  rintro e w2 ⟨u, rfl, hr⟩
  have hll := Ls.lett_len ns
  have hlo := Ls.lett_ok ns
  obtain ⟨l, hlet⟩ : ∃ l, Ls.lett ns = l := ⟨_, rfl⟩
  rw [hlet] at hr hll hlo
  obtain ⟨a, cap, rfl, hw, hnd⟩ := hr.open_ (fun s hs => by have := hlo s hs; omega)
  have hn0 : 0 < l.length := by omega
  have hn60 : l.length ≤ 60 := by omega
  have HB2 := Lib.hid hr.2
  have HF1_ := Lib.hid hw
  have HO := Lib.hid (show ∀ s ∈ l, s.length ≤ 1000 from fun s hs => by have := hlo s hs; omega)
  have HOM := Lib.hid (show ∀ s ∈ l, s.length ≤ 9223372036854775807 from fun s hs => by have := hlo s hs; omega)
  obtain ⟨b0, o0, rfl, -, -⟩ := hw.get hn0
  have hcap := hw.1
  have hcap2 := hw.2.1
  have HWLT := Lib.hid HLT
  clear hr hll hlo hlet hw hnd HLT HP HWLT d1 d2 hlI hn1 hn6 hl
  obtain ⟨N, hN⟩ : ∃ N, l.length = N := ⟨_, rfl⟩
  obtain ⟨I, hI⟩ : ∃ I, A % N = I := ⟨_, rfl⟩
  obtain ⟨D, hD⟩ : ∃ D, N - I = D := ⟨_, rfl⟩
  obtain ⟨M, hM⟩ : ∃ M, B % D = M := ⟨_, rfl⟩
  have hIN : I < N := by rw [← hI]; exact Nat.mod_lt _ (by omega)
  have hMD : M < D := by rw [← hM]; exact Nat.mod_lt _ (by omega)
  obtain ⟨K, hK⟩ : ∃ K, I + M = K := ⟨_, rfl⟩
  have hKN : K < N := by omega
  have hIK : I ≤ K := by omega
  have s1 := Ls.sub_first (l := l) (I := I) (by omega)
  have s2 := Ls.sub_last (l := l) (I := I) (by omega)
  have s3 := Ls.sub_mid (l := l) hIK (by omega)
  have s4 := Ls.sub_neg (l := l) hIK (by omega)
  have s5 := Ls.sub_all ((l.drop I).take (K + 1 - I))
  have s6 := Ls.sub_nil (l := l) (K := K) (by omega)
  have s7 := Ls.sub_far hn0 hn60
  have hpl : ((l.drop I).take (K + 1 - I)).length = K + 1 - I := by rw [List.length_take, List.length_drop]; omega
  have hxy : l.take (I + 1) ++ l.drop (I + 1) = l := List.take_append_drop _ _
  have hom : ∀ s ∈ (l.drop I).take (K + 1 - I), s.length ≤ 1000 := fun s hs => HO.out s (List.mem_of_mem_drop (List.mem_of_mem_take hs))
  have hxl : (l.take (I + 1)).length ≤ 2000000 := by rw [List.length_take]; omega
  have hyl : (l.drop (I + 1)).length ≤ 2000000 := by rw [List.length_drop]; omega
  rw [hN] at s4
  have e1 : Int.tmod (A : Int) (l.length : Int) = (I : Int) := by rw [hN, ← hI]; exact (Int.ofNat_tmod A N).symm
  have e1b : (A : Int) % (l.length : Int) = (I : Int) := by rw [hN, ← hI]; rfl
  have e2 : IntKind.i64.wrap ((l.length : Int) - (I : Int)) = (D : Int) := by rw [IntWalk.i64_in _ (by omega)]; omega
  have e3 : Int.tmod (B : Int) (D : Int) = (M : Int) := by rw [← hM]; exact (Int.ofNat_tmod B D).symm
  have e3b : (B : Int) % (D : Int) = (M : Int) := by rw [← hM]; rfl
  have e4 : IntKind.i64.wrap ((I : Int) + (M : Int)) = (K : Int) := by rw [IntWalk.i64_in _ (by omega)]; omega
  have e5 : IntKind.i64.wrap ((I : Int) + 1) = (I : Int) + 1 := IntWalk.i64_in _ (by omega)
  have e6 : IntKind.i64.wrap ((K : Int) + 1) = (K : Int) + 1 := IntWalk.i64_in _ (by omega)
  have e7 : IntKind.i64.wrap ((I : Int) - (l.length : Int)) = (I : Int) - (N : Int) := by rw [IntWalk.i64_in _ (by omega)]; omega
  have e8 : IntKind.i64.wrap ((K : Int) - (l.length : Int)) = (K : Int) - (N : Int) := by rw [IntWalk.i64_in _ (by omega)]; omega
  have z1 : ((l.length : Int) == 0) = false := by rw [beq_eq_false_iff_ne]; omega
  have z2 : ((D : Int) == 0) = false := by rw [beq_eq_false_iff_ne]; omega
  have f1 : (I : Int) ≤ (K : Int) := by omega
  have f2 : (K : Int) < (l.length : Int) := by omega
  have f3 : (l.length : Int) ≤ (cap : Int) := by omega
  have f4 : (cap : Int) ≤ 9223372036854775807 := by omega
  have f5 : 0 ≤ (I : Int) := by omega
  have f6 : (N : Int) ≤ 60 := by omega
  have f7 : (l.length : Int) ≤ 60 := by omega
  have hn60b : l.length ≤ 2000000 := by omega
  have HS1 := Lib.hid s1
  have HS2 := Lib.hid s2
  have HS3 := Lib.hid s3
  have HS4 := Lib.hid s4
  have HS5 := Lib.hid s5
  have HS6 := Lib.hid s6
  have HS7 := Lib.hid s7
  have HPL := Lib.hid hpl
  have HXY := Lib.hid hxy
  have HOP := Lib.hid hom
  have HNN := Lib.hid hN
  have HSP : Hid (∀ W, Wds W (some ⟨b0, o0, none⟩) cap l → Wds W (some ⟨b0, o0 + I, none⟩) (cap - I) ((l.drop I).take (K + 1 - I))) := Lib.hid fun W h => wds_sub h hIK (by omega)
  have hKI : K + 1 - I ≤ 61 := by omega
  clear hI hD hM hK s1 s2 s3 s4 s5 s6 s7 hpl hxy hom hN
  generalize hx1 : l.take (I + 1) = xl at *
  generalize hy1 : l.drop (I + 1) = yl at *
  generalize hp1 : (l.drop I).take (K + 1 - I) = pl at *
  clear hx1 hy1 hp1

  go_wp2_with fail
  refine (sub_at HF1_.out (by omega) HO.out 0 (I : Int) (by omega) (by omega) HS1.out).mono ?_
  rintro e w3 ⟨b2, d2, rfl, hf, hnd, hb⟩
  have HB3 := Lib.hid (HB2.out.trans (hb.mono HB2.out.size))
  replace HF1_ := Lib.hid (HF1_.out.later hb)
  have HF2_ := Lib.hid hf
  have HD2 := Lib.hid hnd
  clear hf hnd hb
  go_wp2_with fail
  refine (sub_at HF1_.out (by omega) HO.out ((I : Int) + 1) (-1) (by omega) (by omega) HS2.out).mono ?_
  rintro e w4 ⟨b3, d3, rfl, hf, hnd, hb⟩
  have HB4 := Lib.hid (HB3.out.trans (hb.mono HB3.out.size))
  replace HF1_ := Lib.hid (HF1_.out.later hb)
  replace HF2_ := Lib.hid (HF2_.out.later hb)
  have HF3_ := Lib.hid hf
  have HD3 := Lib.hid hnd
  clear hf hnd hb
  go_wp2_with fail
  refine (sub_at HF1_.out (by omega) HO.out (I : Int) (K : Int) (by omega) (by omega) HS3.out).mono ?_
  rintro e w5 ⟨b4, d4, rfl, hf, hnd, hb⟩
  have HB5 := Lib.hid (HB4.out.trans (hb.mono HB4.out.size))
  replace HF1_ := Lib.hid (HF1_.out.later hb)
  replace HF2_ := Lib.hid (HF2_.out.later hb)
  replace HF3_ := Lib.hid (HF3_.out.later hb)
  have HF4_ := Lib.hid hf
  have HD4 := Lib.hid hnd
  clear hf hnd hb
  go_wp2_with (first
    | (at_builtin; refine wpList_append_w rfl (.tmp 49) (.tmp 50) rfl rfl (RowW.empty (Below.refl w5.heap.size w5)) rfl (HF2_.out.later ((Below.refl _ _).alloc (Nat.le_refl _) _)) HD2.out (by simp) hxl ?_; intro v6 w6 hr1; rw [List.nil_append] at hr1; have HR1 := Lib.hid hr1; clear hr1)
    | (at_builtin; refine wpList_append_w rfl (.tmp 51) (.tmp 52) rfl rfl HR1.out rfl (HF3_.out.later HR1.out.2) HD3.out hxl hyl ?_; intro v7 w7 hr2; rw [HXY.out] at hr2; obtain ⟨bz, dz, hz, hfz⟩ := hr2.words HOM.out; have HR2 := Lib.hid hr2; have HFZ := Lib.hid hfz; clear hr2 hfz; subst hz))
  have hb := HR2.out.2
  have HB7 := Lib.hid (HB5.out.trans (hb.mono HB5.out.size))
  replace HF1_ := Lib.hid (HF1_.out.later hb)
  replace HF4_ := Lib.hid (HF4_.out.later hb)
  clear hb
  refine (texts_any _ _ _ _ _ _ w7 HFZ.out HF1_.out).mono ?_
  rintro e w8 ⟨rfl, hb⟩
  have HB8 := Lib.hid (HB7.out.trans (hb.mono HB7.out.size))
  replace HF1_ := Lib.hid (HF1_.out.later hb)
  replace HF4_ := Lib.hid (HF4_.out.later hb)
  clear hb
  simp only [decide_true]
  go_wp2_with fail
  rw [← HPL.out]
  refine (texts_any _ _ _ _ _ _ w8 HF4_.out (HSP.out _ HF1_.out)).mono ?_
  rintro e w9 ⟨rfl, hb⟩
  have HB9 := Lib.hid (HB8.out.trans (hb.mono HB8.out.size))
  replace HF1_ := Lib.hid (HF1_.out.later hb)
  replace HF4_ := Lib.hid (HF4_.out.later hb)
  clear hb
  simp only [decide_true]
  go_wp2_with fail
  refine (sub_at HF1_.out (by omega) HO.out ((I : Int) - (N : Int)) ((K : Int) - (N : Int)) (by omega) (by omega) HS4.out).mono ?_
  rintro e w10 ⟨b5, d5, rfl, hf, hnd, hb⟩
  have HB10 := Lib.hid (HB9.out.trans (hb.mono HB9.out.size))
  replace HF1_ := Lib.hid (HF1_.out.later hb)
  replace HF4_ := Lib.hid (HF4_.out.later hb)
  have HF5_ := Lib.hid hf
  have HD5 := Lib.hid hnd
  clear hf hnd hb
  go_wp2_with fail
  refine (texts_any _ _ _ _ _ _ w10 HF5_.out HF4_.out).mono ?_
  rintro e w11 ⟨rfl, hb⟩
  have HB11 := Lib.hid (HB10.out.trans (hb.mono HB10.out.size))
  replace HF1_ := Lib.hid (HF1_.out.later hb)
  replace HF4_ := Lib.hid (HF4_.out.later hb)
  replace HF5_ := Lib.hid (HF5_.out.later hb)
  clear hb
  simp only [decide_true]
  go_wp2_with fail
  refine (sub_at HF4_.out (by have := HPL.out; omega) HOP.out 0 (-1) (by omega) (by omega) HS5.out).mono ?_
  rintro e w12 ⟨b6, d6, rfl, hf, hnd, hb⟩
  have HB12 := Lib.hid (HB11.out.trans (hb.mono HB11.out.size))
  replace HF1_ := Lib.hid (HF1_.out.later hb)
  replace HF4_ := Lib.hid (HF4_.out.later hb)
  have HF6_ := Lib.hid hf
  have HD6 := Lib.hid hnd
  clear hf hnd hb
  go_wp2_with fail
  refine (texts_any _ _ _ _ _ _ w12 HF6_.out HF4_.out).mono ?_
  rintro e w13 ⟨rfl, hb⟩
  have HB13 := Lib.hid (HB12.out.trans (hb.mono HB12.out.size))
  replace HF1_ := Lib.hid (HF1_.out.later hb)
  replace HF4_ := Lib.hid (HF4_.out.later hb)
  replace HF6_ := Lib.hid (HF6_.out.later hb)
  clear hb
  simp only [decide_true]
  go_wp2_with fail
  refine (sub_at HF1_.out (by omega) HO.out ((K : Int) + 1) (K : Int) (by omega) (by omega) HS6.out).mono ?_
  rintro e w14 ⟨b7, d7, rfl, hf, hnd, hb⟩
  have HB14 := Lib.hid (HB13.out.trans (hb.mono HB13.out.size))
  replace HF1_ := Lib.hid (HF1_.out.later hb)
  have HF7_ := Lib.hid hf
  have HD7 := Lib.hid hnd
  clear hf hnd hb
  simp only [List.length_nil]
  go_wp2_with fail
  refine (sub_at HF1_.out (by omega) HO.out (-100) 100 (by omega) (by omega) HS7.out).mono ?_
  rintro e w15 ⟨b8, d8, rfl, hf, hnd, hb⟩
  have HB15 := Lib.hid (HB14.out.trans (hb.mono HB14.out.size))
  replace HF1_ := Lib.hid (HF1_.out.later hb)
  have HF8_ := Lib.hid hf
  have HD8 := Lib.hid hnd
  clear hf hnd hb
  go_wp2_with fail
  refine (texts_any _ _ _ _ _ _ w15 HF8_.out HF1_.out).mono ?_
  rintro e w16 ⟨rfl, hb⟩
  have HB16 := Lib.hid (HB15.out.trans (hb.mono HB15.out.size))
  replace HF1_ := Lib.hid (HF1_.out.later hb)
  replace HF8_ := Lib.hid (HF8_.out.later hb)
  clear hb
  simp only [decide_true]
  go_wp2_with fail
  refine (HAW.out w16 HB16.out).mono ?_
  rintro e w17 ⟨rfl, hb⟩
  have HB17 := Lib.hid hb
  clear hb
  go_wp2_with fail
  go_ret
  exact ⟨rfl, HB17.out⟩
end Go.Proofs.Ytjfjlbgbdjcecaa
