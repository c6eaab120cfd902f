/- The contract of the reference's Join. -/
import Derived.Test.YtchladbjhodkoaaOwRefGive
namespace Go.Proofs.Ytchladbjhodkoaa
open Go.RowKit

set_option maxRecDepth 100000 in
set_option maxHeartbeats 16000000 in
theorem refJoin_any (a1 a2 : Option Addr) (cap1 cap2 : Nat) (la lb : List Ow.C) (w : World) (hva : Ow.VL la) (hvb : Ow.VL lb) (hA : Cls w a1 cap1 la) (hB : Cls w a2 cap2 lb) :
    Calls Try.prog 16 #[.slice a1 la.length cap1, .slice a2 lb.length cap2] w (OwOut (fun k => Ow.joinO (Ow.own la k) (Ow.own lb k)) w) := by
  have HMK2 := Lib.hid (Ow.marks_join hva hvb)
  have hla := hva.len
  have hlb := hvb.len
  have HVA := Lib.hid hva
  have HVB := Lib.hid hvb
  have HA := Lib.hid hA
  have HBL := Lib.hid hB
  have HMC := Lib.hid (refMarksC_any none a1 0 cap1 [] la w hva (ints_nil w) List.Pairwise.nil (by simp; omega) hA)
  simp only [List.length_nil] at HMC
  clear hA hB hva hvb
  go_enter Try.func16, Try.ntmps16
  go_wp2_with fail
  refine HMC.out.mono ?_
  rintro en w1 ⟨am, cm, rfl, hi, hb⟩
  have HI1 := Lib.hid hi
  have HA1 := Lib.hid (HA.out.later hb)
  have HBL1 := Lib.hid (HBL.out.later hb)
  have HB1 := Lib.hid hb
  have hMl := Ow.marksC_len la []
  have HMS := Lib.hid (Ow.marksC_sorted la (m := []) List.Pairwise.nil)
  clear hi hb HMC HA HBL
  have HMC2 := Lib.hid (refMarksC_any am a2 cm cap2 (Ow.marksC [] la) lb w1 HVB.out HI1.out HMS.out (by simp at hMl; omega) HBL1.out)
  have HML : Hid ((Ow.marksC (Ow.marksC [] la) lb).length ≤ 950000) := Lib.hid (by have := Ow.marksC_len lb (Ow.marksC [] la); simp at hMl; omega)
  go_wp2_with fail
  refine HMC2.out.mono ?_
  rintro en wo ⟨ao, co, rfl, hi, hb⟩
  have HI := Lib.hid hi
  have HA5 := Lib.hid (HA1.out.later hb)
  have HBL5 := Lib.hid (HBL1.out.later hb)
  have HB5 := Lib.hid (HB1.out.trans (hb.mono HB1.out.size))
  clear hi hb HMC2 HA1 HBL1 HB1 HI1 hMl HMS
  generalize Ow.marksC (Ow.marksC [] la) lb = M at *
  have hMc := HI.out.1.1
  have hMm := HML.out
  have HT : Hid (Grown wo (fun k => Ow.joinO (Ow.own la k) (Ow.own lb k)) M 0 (.slice none 0 0) [] wo) := Lib.hid (Grown.start HMK2.out)
  obtain ⟨g, hg⟩ : ∃ g, (fun k => Ow.joinO (Ow.own la k) (Ow.own lb k)) = g := ⟨_, rfl⟩
  have HGE : Hid (∀ k, g k = Ow.joinO (Ow.own la k) (Ow.own lb k)) := Lib.hid fun k => by rw [← hg]
  rw [hg] at HT HMK2
  clear hg
  go_wp2
  go_loopw [6, 7] (fun v i wr => ∃ (j : Nat) (L : List Ow.C) (sv : Value), i = .int .i64 j ∧ sv = v ∧ Hid (Grown wo g M j sv L wr) ∧ j ≤ M.length) (fun _ i _ => M.length - (intOf i).toNat)
  case atStart => exact ⟨0, [], _, rfl, rfl, HT, Nat.zero_le _⟩
  case round =>
    obtain ⟨j, L, sv, rfl, rfl, HGR, hjm⟩ := hrel
    have ej1 : IntKind.i64.wrap ((j : Int) + 1) = (j : Int) + 1 := IntWalk.i64_in _ (by omega)
    by_cases hj : j + 1 < M.length
    · have hbw := HGR.out.2.1
      obtain ⟨b, off, rfl, hb, q1⟩ := ints_cellAt (HI.out.1.later hbw) (k := j) (by omega)
      obtain ⟨b', off', hbb, hb', q2⟩ := ints_cellAt (HI.out.1.later hbw) hj
      cases hbb
      have r1 := HMK2.out.rng _ (Ow.getD_mem (M := M) (i := j) (by omega))
      have r2 := HMK2.out.rng _ (Ow.getD_mem hj)
      have hblt : b < wo.heap.size := by
        obtain ⟨b2, off2, e2, hb2, _⟩ := ints_cellAt HI.out.1 (k := j) (by omega)
        cases e2; exact hb2
      have HPUT := Lib.hid (fun n' e' w2' w3' v' en hgk hb2 ho he => Grown.put (n := n') (e := e') (w2 := w2') (w3 := w3') (v' := v') (en := en) HMK2.out HGR.out hj hgk hb2 ho he)
      have HSK := Lib.hid (fun w2' hgk hb2 => Grown.skip (w2 := w2') HMK2.out HGR.out hj hgk hb2)
      have hgj := HGE.out (M.getD j 0)
      have HOF := Lib.hid (fun w' h => refOf_any a1 cap1 la (M.getD j 0) w' h)
      have HOG := Lib.hid (fun w' h => refOf_any a2 cap2 lb (M.getD j 0) w' h)
      have HMO := Lib.hid (fun w2' n' e' (h : Below wr.heap.size wr w2') => refMore_any wo.heap.size sv L ⟨M.getD j 0, M.getD (j + 1) 0 - 1, n', e'⟩ w2' (by have := HGR.out.len; omega) (by simp only; omega) (Nat.le_trans hbw.size h.size) (owns_below HGR.out.1 h))
      have HAZ := Lib.hid (HA5.out.later hbw)
      have HBZ := Lib.hid (HBL5.out.later hbw)
      have HLN := Lib.hid HGR.out.1
      have hbz := hbw.size
      generalize M.getD j 0 = p at *
      generalize M.getD (j + 1) 0 = q at *
      have ewq : IntKind.i64.wrap (q - 1) = q - 1 := IntWalk.i64_in _ (by omega)
      have j0 : (0 : Int) ≤ (j : Int) := by omega
      have j1 : (j : Int) < (M.length : Int) := by omega
      have j2 : (j : Int) + 1 < (M.length : Int) := by omega
      have j3 : ((j : Int) + 1).toNat = j + 1 := by omega
      have j4 : (0 : Int) ≤ (j : Int) + 1 := by omega
      clear HT hbw
      simp only at HMO
      cases hoa : Ow.own la p with
      | none =>
        have hro : Ow.ro (Ow.own la p) = (-1, 0) := by rw [hoa]; rfl
        rw [hro] at HOF
        cases hob : Ow.own lb p with
        | none =>
          have hro2 : Ow.ro (Ow.own lb p) = (-1, 0) := by rw [hob]; rfl
          rw [hro2] at HOG
          have HGK : Hid (g p = none) := Lib.hid (by rw [hgj, hoa, hob]; rfl)
          clear hgj hoa hob hro hro2
          simp only at HOF HOG
          go_wp2_with fail
          refine (HOF.out _ HAZ.out).mono ?_
          rintro en w6 ⟨rfl, hb6⟩
          have q1' := (hb6.cell (p := ⟨b, off + j, none⟩) hb).trans q1
          have q2' := (hb6.cell (p := ⟨b, off + (j + 1), none⟩) hb).trans q2
          have HX6 := Lib.hid (HBZ.out.later hb6)
          have HB6 := Lib.hid hb6
          have hb6s : b < w6.heap.size := Nat.lt_of_lt_of_le hb hb6.size
          clear hb6 q1 q2
          go_wp2_with fail
          refine (HOG.out _ HX6.out).mono ?_
          rintro en w7 ⟨rfl, hb7⟩
          have q1 := (hb7.cell (p := ⟨b, off + j, none⟩) hb6s).trans q1'
          have q2 := (hb7.cell (p := ⟨b, off + (j + 1), none⟩) hb6s).trans q2'
          have HB7 := Lib.hid (HB6.out.trans (hb7.mono HB6.out.size))
          have hb7s : b < w7.heap.size := Nat.lt_of_lt_of_le hb6s hb7.size
          clear hb7 q1' q2'
          go_wp2
          go_roundw
          case rel => exact ⟨j + 1, L, _, by go_num, rfl, Lib.hid (HSK.out _ HGK.out HB7.out), by omega⟩
          case measure => simp [intOf]; omega
        | some o =>
          obtain ⟨on, oe⟩ := o
          have hro2 : Ow.ro (Ow.own lb p) = (on, oe) := by rw [hob]; rfl
          rw [hro2] at HOG
          have HGK : Hid (g p = some (on, oe)) := Lib.hid (by rw [hgj, hoa, hob]; rfl)
          have hrg := Ow.own_range HVB.out hob
          clear hgj hoa hob hro hro2
          simp only at HOF HOG hrg
          have hn0 := hrg.2.2.1
          have he0 : 0 < oe := by omega
          go_wp2_with fail
          refine (HOF.out _ HAZ.out).mono ?_
          rintro en w6 ⟨rfl, hb6⟩
          have q1' := (hb6.cell (p := ⟨b, off + j, none⟩) hb).trans q1
          have q2' := (hb6.cell (p := ⟨b, off + (j + 1), none⟩) hb).trans q2
          have HX6 := Lib.hid (HBZ.out.later hb6)
          have HB6 := Lib.hid hb6
          have hb6s : b < w6.heap.size := Nat.lt_of_lt_of_le hb hb6.size
          clear hb6 q1 q2
          go_wp2_with fail
          refine (HOG.out _ HX6.out).mono ?_
          rintro en w7 ⟨rfl, hb7⟩
          have q1 := (hb7.cell (p := ⟨b, off + j, none⟩) hb6s).trans q1'
          have q2 := (hb7.cell (p := ⟨b, off + (j + 1), none⟩) hb6s).trans q2'
          have HB7 := Lib.hid (HB6.out.trans (hb7.mono HB6.out.size))
          have hb7s : b < w7.heap.size := Nat.lt_of_lt_of_le hb6s hb7.size
          clear hb7 q1' q2'
          go_upto_region 12 with (fail)
          go_region_held3 (fun w' => w'.cell? ⟨b, off + j, none⟩ = some (.int .i64 p) ∧ w'.cell? ⟨b, off + (j + 1), none⟩ = some (.int .i64 q))
            (first
              | go_keep
              | exact ⟨(HKK.out.cell (p := ⟨b, off + j, none⟩) hb7s HNE.out).trans q1, (HKK.out.cell (p := ⟨b, off + (j + 1), none⟩) hb7s HNE.out).trans q2⟩)
            (first
              | (go_at_call 40; refine (HMO.out _ on oe HB7.out.drew).mono ?_; rintro en w8 ho8; obtain ⟨v8, e8, h81, h82, h83⟩ := ho8; subst e8; have HNE : Hid (some b ≠ sv.ownBlock) := Lib.hid (fun e => by have := (HLN.out.lt b e.symm).1; omega); have HKK : Hid (Keeps (fun k => some k ≠ sv.ownBlock) w7 w8) := Lib.hid ((Keeps.refl _ w7).drew.trans h82); have HOO := Lib.hid (HPUT.out on oe _ w8 v8 _ HGK.out HB7.out.drew ⟨v8, rfl, h81, h82, h83⟩ rfl); clear h81 h82 h83))
          go_wp2
          go_roundw
          case rel =>
            obtain ⟨L', h'⟩ := HOO.out
            exact ⟨j + 1, L', _, by go_num, rfl, Lib.hid h', by omega⟩
          case measure => simp [intOf]; omega
      | some o =>
        obtain ⟨pn, pe⟩ := o
        have hro : Ow.ro (Ow.own la p) = (pn, pe) := by rw [hoa]; rfl
        rw [hro] at HOF
        have hrg := Ow.own_range HVA.out hoa
        simp only at hrg
        have hp0 := hrg.2.2.1
        have hpe0 : 0 < pe := by omega
        cases hob : Ow.own lb p with
        | none =>
          have hro2 : Ow.ro (Ow.own lb p) = (-1, 0) := by rw [hob]; rfl
          rw [hro2] at HOG
          have HGK : Hid (g p = some (pn, pe)) := Lib.hid (by rw [hgj, hoa, hob]; rfl)
          clear hgj hoa hob hro hro2 hrg
          simp only at HOF HOG
          have hpe1 : ¬ (0 : Int) = pe := by omega
          go_wp2_with fail
          refine (HOF.out _ HAZ.out).mono ?_
          rintro en w6 ⟨rfl, hb6⟩
          have q1' := (hb6.cell (p := ⟨b, off + j, none⟩) hb).trans q1
          have q2' := (hb6.cell (p := ⟨b, off + (j + 1), none⟩) hb).trans q2
          have HX6 := Lib.hid (HBZ.out.later hb6)
          have HB6 := Lib.hid hb6
          have hb6s : b < w6.heap.size := Nat.lt_of_lt_of_le hb hb6.size
          clear hb6 q1 q2
          go_wp2_with fail
          refine (HOG.out _ HX6.out).mono ?_
          rintro en w7 ⟨rfl, hb7⟩
          have q1 := (hb7.cell (p := ⟨b, off + j, none⟩) hb6s).trans q1'
          have q2 := (hb7.cell (p := ⟨b, off + (j + 1), none⟩) hb6s).trans q2'
          have HB7 := Lib.hid (HB6.out.trans (hb7.mono HB6.out.size))
          have hb7s : b < w7.heap.size := Nat.lt_of_lt_of_le hb6s hb7.size
          clear hb7 q1' q2'
          go_upto_region 12 with (fail)
          go_region_held3 (fun w' => w'.cell? ⟨b, off + j, none⟩ = some (.int .i64 p) ∧ w'.cell? ⟨b, off + (j + 1), none⟩ = some (.int .i64 q))
            (first
              | go_keep
              | exact ⟨(HKK.out.cell (p := ⟨b, off + j, none⟩) hb7s HNE.out).trans q1, (HKK.out.cell (p := ⟨b, off + (j + 1), none⟩) hb7s HNE.out).trans q2⟩)
            (first
              | (go_at_call 40; refine (HMO.out _ pn pe HB7.out.drew).mono ?_; rintro en w8 ho8; obtain ⟨v8, e8, h81, h82, h83⟩ := ho8; subst e8; have HNE : Hid (some b ≠ sv.ownBlock) := Lib.hid (fun e => by have := (HLN.out.lt b e.symm).1; omega); have HKK : Hid (Keeps (fun k => some k ≠ sv.ownBlock) w7 w8) := Lib.hid ((Keeps.refl _ w7).drew.trans h82); have HOO := Lib.hid (HPUT.out pn pe _ w8 v8 _ HGK.out HB7.out.drew ⟨v8, rfl, h81, h82, h83⟩ rfl); clear h81 h82 h83))
          go_wp2
          go_roundw
          case rel =>
            obtain ⟨L', h'⟩ := HOO.out
            exact ⟨j + 1, L', _, by go_num, rfl, Lib.hid h', by omega⟩
          case measure => simp [intOf]; omega
        | some o =>
          obtain ⟨on, oe⟩ := o
          have hro2 : Ow.ro (Ow.own lb p) = (on, oe) := by rw [hob]; rfl
          rw [hro2] at HOG
          have hrg2 := Ow.own_range HVB.out hob
          simp only at HOF HOG hrg2
          have hn0 := hrg2.2.2.1
          rw [hoa, hob] at hgj
          clear hoa hob hro hro2 hrg hrg2
          by_cases c1 : pe < oe
          · have HGK : Hid (g p = some (on, oe)) := Lib.hid (by rw [hgj]; simp [Ow.joinO, c1])
            clear hgj
            go_wp2_with fail
            refine (HOF.out _ HAZ.out).mono ?_
            rintro en w6 ⟨rfl, hb6⟩
            have q1' := (hb6.cell (p := ⟨b, off + j, none⟩) hb).trans q1
            have q2' := (hb6.cell (p := ⟨b, off + (j + 1), none⟩) hb).trans q2
            have HX6 := Lib.hid (HBZ.out.later hb6)
            have HB6 := Lib.hid hb6
            have hb6s : b < w6.heap.size := Nat.lt_of_lt_of_le hb hb6.size
            clear hb6 q1 q2
            go_wp2_with fail
            refine (HOG.out _ HX6.out).mono ?_
            rintro en w7 ⟨rfl, hb7⟩
            have q1 := (hb7.cell (p := ⟨b, off + j, none⟩) hb6s).trans q1'
            have q2 := (hb7.cell (p := ⟨b, off + (j + 1), none⟩) hb6s).trans q2'
            have HB7 := Lib.hid (HB6.out.trans (hb7.mono HB6.out.size))
            have hb7s : b < w7.heap.size := Nat.lt_of_lt_of_le hb6s hb7.size
            clear hb7 q1' q2'
            go_upto_region 12 with (fail)
            go_region_held3 (fun w' => w'.cell? ⟨b, off + j, none⟩ = some (.int .i64 p) ∧ w'.cell? ⟨b, off + (j + 1), none⟩ = some (.int .i64 q))
              (first
                | go_keep
                | exact ⟨(HKK.out.cell (p := ⟨b, off + j, none⟩) hb7s HNE.out).trans q1, (HKK.out.cell (p := ⟨b, off + (j + 1), none⟩) hb7s HNE.out).trans q2⟩)
              (first
                | (go_at_call 40; refine (HMO.out _ on oe HB7.out.drew).mono ?_; rintro en w8 ho8; obtain ⟨v8, e8, h81, h82, h83⟩ := ho8; subst e8; have HNE : Hid (some b ≠ sv.ownBlock) := Lib.hid (fun e => by have := (HLN.out.lt b e.symm).1; omega); have HKK : Hid (Keeps (fun k => some k ≠ sv.ownBlock) w7 w8) := Lib.hid ((Keeps.refl _ w7).drew.trans h82); have HOO := Lib.hid (HPUT.out on oe _ w8 v8 _ HGK.out HB7.out.drew ⟨v8, rfl, h81, h82, h83⟩ rfl); clear h81 h82 h83))
            go_wp2
            go_roundw
            case rel =>
              obtain ⟨L', h'⟩ := HOO.out
              exact ⟨j + 1, L', _, by go_num, rfl, Lib.hid h', by omega⟩
            case measure => simp [intOf]; omega
          · by_cases c2 : oe = pe
            · by_cases c3 : pn < on
              · have HGK : Hid (g p = some (on, oe)) := Lib.hid (by rw [hgj]; simp [Ow.joinO, c2, c3])
                clear hgj
                subst c2
                go_wp2_with fail
                refine (HOF.out _ HAZ.out).mono ?_
                rintro en w6 ⟨rfl, hb6⟩
                have q1' := (hb6.cell (p := ⟨b, off + j, none⟩) hb).trans q1
                have q2' := (hb6.cell (p := ⟨b, off + (j + 1), none⟩) hb).trans q2
                have HX6 := Lib.hid (HBZ.out.later hb6)
                have HB6 := Lib.hid hb6
                have hb6s : b < w6.heap.size := Nat.lt_of_lt_of_le hb hb6.size
                clear hb6 q1 q2
                go_wp2_with fail
                refine (HOG.out _ HX6.out).mono ?_
                rintro en w7 ⟨rfl, hb7⟩
                have q1 := (hb7.cell (p := ⟨b, off + j, none⟩) hb6s).trans q1'
                have q2 := (hb7.cell (p := ⟨b, off + (j + 1), none⟩) hb6s).trans q2'
                have HB7 := Lib.hid (HB6.out.trans (hb7.mono HB6.out.size))
                have hb7s : b < w7.heap.size := Nat.lt_of_lt_of_le hb6s hb7.size
                clear hb7 q1' q2'
                go_upto_region 12 with (fail)
                go_region_held3 (fun w' => w'.cell? ⟨b, off + j, none⟩ = some (.int .i64 p) ∧ w'.cell? ⟨b, off + (j + 1), none⟩ = some (.int .i64 q))
                  (first
                    | go_keep
                    | exact ⟨(HKK.out.cell (p := ⟨b, off + j, none⟩) hb7s HNE.out).trans q1, (HKK.out.cell (p := ⟨b, off + (j + 1), none⟩) hb7s HNE.out).trans q2⟩)
                  (first
                    | (go_at_call 40; refine (HMO.out _ on oe HB7.out.drew).mono ?_; rintro en w8 ho8; obtain ⟨v8, e8, h81, h82, h83⟩ := ho8; subst e8; have HNE : Hid (some b ≠ sv.ownBlock) := Lib.hid (fun e => by have := (HLN.out.lt b e.symm).1; omega); have HKK : Hid (Keeps (fun k => some k ≠ sv.ownBlock) w7 w8) := Lib.hid ((Keeps.refl _ w7).drew.trans h82); have HOO := Lib.hid (HPUT.out on oe _ w8 v8 _ HGK.out HB7.out.drew ⟨v8, rfl, h81, h82, h83⟩ rfl); clear h81 h82 h83))
                go_wp2
                go_roundw
                case rel =>
                  obtain ⟨L', h'⟩ := HOO.out
                  exact ⟨j + 1, L', _, by go_num, rfl, Lib.hid h', by omega⟩
                case measure => simp [intOf]; omega
              · have HGK : Hid (g p = some (pn, pe)) := Lib.hid (by rw [hgj]; simp [Ow.joinO, c2, c3])
                clear hgj
                go_wp2_with fail
                refine (HOF.out _ HAZ.out).mono ?_
                rintro en w6 ⟨rfl, hb6⟩
                have q1' := (hb6.cell (p := ⟨b, off + j, none⟩) hb).trans q1
                have q2' := (hb6.cell (p := ⟨b, off + (j + 1), none⟩) hb).trans q2
                have HX6 := Lib.hid (HBZ.out.later hb6)
                have HB6 := Lib.hid hb6
                have hb6s : b < w6.heap.size := Nat.lt_of_lt_of_le hb hb6.size
                clear hb6 q1 q2
                go_wp2_with fail
                refine (HOG.out _ HX6.out).mono ?_
                rintro en w7 ⟨rfl, hb7⟩
                have q1 := (hb7.cell (p := ⟨b, off + j, none⟩) hb6s).trans q1'
                have q2 := (hb7.cell (p := ⟨b, off + (j + 1), none⟩) hb6s).trans q2'
                have HB7 := Lib.hid (HB6.out.trans (hb7.mono HB6.out.size))
                have hb7s : b < w7.heap.size := Nat.lt_of_lt_of_le hb6s hb7.size
                clear hb7 q1' q2'
                go_upto_region 12 with (fail)
                go_region_held3 (fun w' => w'.cell? ⟨b, off + j, none⟩ = some (.int .i64 p) ∧ w'.cell? ⟨b, off + (j + 1), none⟩ = some (.int .i64 q))
                  (first
                    | go_keep
                    | exact ⟨(HKK.out.cell (p := ⟨b, off + j, none⟩) hb7s HNE.out).trans q1, (HKK.out.cell (p := ⟨b, off + (j + 1), none⟩) hb7s HNE.out).trans q2⟩)
                  (first
                    | (go_at_call 40; refine (HMO.out _ pn pe HB7.out.drew).mono ?_; rintro en w8 ho8; obtain ⟨v8, e8, h81, h82, h83⟩ := ho8; subst e8; have HNE : Hid (some b ≠ sv.ownBlock) := Lib.hid (fun e => by have := (HLN.out.lt b e.symm).1; omega); have HKK : Hid (Keeps (fun k => some k ≠ sv.ownBlock) w7 w8) := Lib.hid ((Keeps.refl _ w7).drew.trans h82); have HOO := Lib.hid (HPUT.out pn pe _ w8 v8 _ HGK.out HB7.out.drew ⟨v8, rfl, h81, h82, h83⟩ rfl); clear h81 h82 h83))
                go_wp2
                go_roundw
                case rel =>
                  obtain ⟨L', h'⟩ := HOO.out
                  exact ⟨j + 1, L', _, by go_num, rfl, Lib.hid h', by omega⟩
                case measure => simp [intOf]; omega
            · have HGK : Hid (g p = some (pn, pe)) := Lib.hid (by rw [hgj]; simp only [Ow.joinO]; rw [if_neg (by omega)])
              clear hgj
              go_wp2_with fail
              refine (HOF.out _ HAZ.out).mono ?_
              rintro en w6 ⟨rfl, hb6⟩
              have q1' := (hb6.cell (p := ⟨b, off + j, none⟩) hb).trans q1
              have q2' := (hb6.cell (p := ⟨b, off + (j + 1), none⟩) hb).trans q2
              have HX6 := Lib.hid (HBZ.out.later hb6)
              have HB6 := Lib.hid hb6
              have hb6s : b < w6.heap.size := Nat.lt_of_lt_of_le hb hb6.size
              clear hb6 q1 q2
              go_wp2_with fail
              refine (HOG.out _ HX6.out).mono ?_
              rintro en w7 ⟨rfl, hb7⟩
              have q1 := (hb7.cell (p := ⟨b, off + j, none⟩) hb6s).trans q1'
              have q2 := (hb7.cell (p := ⟨b, off + (j + 1), none⟩) hb6s).trans q2'
              have HB7 := Lib.hid (HB6.out.trans (hb7.mono HB6.out.size))
              have hb7s : b < w7.heap.size := Nat.lt_of_lt_of_le hb6s hb7.size
              clear hb7 q1' q2'
              go_upto_region 12 with (fail)
              go_region_held3 (fun w' => w'.cell? ⟨b, off + j, none⟩ = some (.int .i64 p) ∧ w'.cell? ⟨b, off + (j + 1), none⟩ = some (.int .i64 q))
                (first
                  | go_keep
                  | exact ⟨(HKK.out.cell (p := ⟨b, off + j, none⟩) hb7s HNE.out).trans q1, (HKK.out.cell (p := ⟨b, off + (j + 1), none⟩) hb7s HNE.out).trans q2⟩)
                (first
                  | (go_at_call 40; refine (HMO.out _ pn pe HB7.out.drew).mono ?_; rintro en w8 ho8; obtain ⟨v8, e8, h81, h82, h83⟩ := ho8; subst e8; have HNE : Hid (some b ≠ sv.ownBlock) := Lib.hid (fun e => by have := (HLN.out.lt b e.symm).1; omega); have HKK : Hid (Keeps (fun k => some k ≠ sv.ownBlock) w7 w8) := Lib.hid ((Keeps.refl _ w7).drew.trans h82); have HOO := Lib.hid (HPUT.out pn pe _ w8 v8 _ HGK.out HB7.out.drew ⟨v8, rfl, h81, h82, h83⟩ rfl); clear h81 h82 h83))
              go_wp2
              go_roundw
              case rel =>
                obtain ⟨L', h'⟩ := HOO.out
                exact ⟨j + 1, L', _, by go_num, rfl, Lib.hid h', by omega⟩
              case measure => simp [intOf]; omega
    · have HFIN := Lib.hid (Grown.fin HMK2.out HGR.out hj)
      have HRZ := Lib.hid (And.intro HGR.out.1 HGR.out.2.1)
      have hj' : ¬ (j : Int) + 1 < (M.length : Int) := by omega
      clear hj HGR
      go_wp2
      go_ret
      obtain ⟨a9, c9, hv9, hc9, -⟩ := cls_of_row HRZ.out.1 (Ow.fit_all HFIN.out.1)
      exact ⟨a9, c9, L, by rw [← hv9]; rfl, ⟨HFIN.out.1, HFIN.out.2.1, fun k h0 h1 => (HFIN.out.2.2 k h0 h1).trans (HGE.out k)⟩, hc9, HB5.out.trans (HRZ.out.2.mono HB5.out.size)⟩
end Go.Proofs.Ytchladbjhodkoaa
