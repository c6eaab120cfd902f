/- The walk of ListEnds: what is pushed to the end is found from the end, what is pushed to the front from the front. -/
import Derived.Test.YtjfjlbgbdjcecaaLsRef
import Derived.Test.YtjfjlbgbdjcecaaLsTexts
import Derived.Test.YtjfjlbgbdjcecaaLsLetters
import Derived.Test.YtjfjlbgbdjcecaaLsSubPlain
import Derived.BigQuiet
namespace Go.Proofs.Ytjfjlbgbdjcecaa
open Go.RowKit Go.Shelf
set_option linter.unusedVariables false
set_option linter.unusedSimpArgs false

theorem rev_getD {l v : List Ls.Bs} {q : Nat} (h : q < v.length) : (v.reverse ++ l).getD (v.length - 1 - q) [] = v.getD q [] := by
  rw [List.getD, List.getElem?_append_left (by simp; omega), List.getElem?_reverse (by omega), List.getD]
  congr 2
  omega
theorem end_at {l v : List Ls.Bs} {q : Nat} (h : q < v.length) : Ls.atS (l ++ v) (-((v.length - q : Nat) : Int)) = v.getD q [] ∧ Ls.isAt (l ++ v).length (-((v.length - q : Nat) : Int)) = true := by
  have hx : Ls.ix (l ++ v).length (-((v.length - q : Nat) : Int)) = ((l.length + q : Nat) : Int) := by
    unfold Ls.ix
    rw [if_pos (by omega), List.length_append]
    omega
  have hi : Ls.isAt (l ++ v).length (-((v.length - q : Nat) : Int)) = true := by
    unfold Ls.isAt
    rw [hx, decide_eq_true (by omega), decide_eq_true (by rw [List.length_append]; omega)]
    rfl
  refine ⟨?_, hi⟩
  unfold Ls.atS
  rw [hi, if_pos rfl, hx, Int.toNat_natCast, List.getD, List.getElem?_append_right (by omega), List.getD]
  congr 2
  omega
theorem sub_ok {l : List Ls.Bs} {x y : Int} (h : ∀ s ∈ l, s.length ≤ 1000) : ∀ s ∈ Ls.subS l x y, s.length ≤ 9223372036854775807 := fun s hs => by have := h s (Ls.subS_mem hs); omega

set_option maxRecDepth 100000 in
set_option maxHeartbeats 16000000 in
theorem listEnds_walk (p : Option Addr) (cp : Nat) (as' : List UInt8) (p2 : Option Addr) (cp2 : Nat) (bs : List UInt8) (front : Bool) (w : World) (hP : Bytes w p as') (hP2 : Bytes w p2 bs) (hl : as'.length ≤ 9223372036854775807) (hl2 : bs.length ≤ 9223372036854775807) :
    Calls Try.prog 4 #[.slice p as'.length cp, .slice p2 bs.length cp2, .bool front] w fun e W => e = .returned (.bool true) ∧ Below w.heap.size w W := by
  have hawk : ∀ W, Below w.heap.size w W → Calls Try.prog 9 #[] W fun e W' => e = .returned (.bool true) ∧ Below w.heap.size w W' := fun W h => (awake_any W).mono fun e W' ⟨he, hb⟩ => ⟨he, h.trans (hb.mono h.size)⟩
  have HAW := Lib.hid hawk
  have HP := Lib.hid hP
  have HP2 := Lib.hid hP2
  have hlI : (as'.length : Int) ≤ 9223372036854775807 := by omega
  have hlI2 : (bs.length : Int) ≤ 9223372036854775807 := by omega
  clear hawk hP hP2
  go_enter Try.func4, Try.ntmps4
  by_cases hok : as'.length ≤ 40 ∧ bs.length ≤ 40
  rotate_left
  · by_cases h1 : as'.length ≤ 40
    · have d1 : ¬ (40 : Int) < (as'.length : Int) := by omega
      have d2 : (40 : Int) < (bs.length : Int) := by
        by_cases h2 : bs.length ≤ 40
        · exact (hok ⟨h1, h2⟩).elim
        · omega
      clear hok h1
      go_wp2_with fail
      refine (HAW.out w (Below.refl _ _)).mono ?_
      rintro e w2 ⟨rfl, hb⟩
      have HB2 := Lib.hid hb
      clear hb
      go_wp2_with fail
      go_ret
      exact ⟨rfl, HB2.out⟩
    · have d1 : (40 : Int) < (as'.length : Int) := by omega
      clear hok h1
      go_wp2_with fail
      refine (HAW.out w (Below.refl _ _)).mono ?_
      rintro e w2 ⟨rfl, hb⟩
      have HB2 := Lib.hid hb
      clear hb
      go_wp2_with fail
      go_ret
      exact ⟨rfl, HB2.out⟩
  obtain ⟨hn4, hm4⟩ := hok
  have d1 : ¬ (40 : Int) < (as'.length : Int) := by omega
  have d2 : ¬ (40 : Int) < (bs.length : Int) := by omega
  have HLT := Lib.hid (letters_any p cp as' w HP.out (by omega))
  have HLT2 := Lib.hid (fun W (h : Below w.heap.size w W) => letters_any p2 cp2 bs W (HP2.out.later h) (by omega))
  go_wp2_with fail
  refine HLT.out.mono ?_
  rintro e w2 ⟨u, rfl, hr⟩
  have hll := Ls.lett_len as'
  have hlo := Ls.lett_ok as'
  obtain ⟨l, hlet⟩ : ∃ l, Ls.lett as' = l := ⟨_, rfl⟩
  rw [hlet] at hr hll hlo
  obtain ⟨a, cap, rfl, hw, hnd⟩ := hr.open_ (fun s hs => by have := hlo s hs; omega)
  have hn40 : l.length ≤ 40 := by omega
  have HB2 := Lib.hid hr.2
  have HF1_ := Lib.hid hw
  have HO := Lib.hid (show ∀ s ∈ l, s.length ≤ 1000 from fun s hs => by have := hlo s hs; omega)
  clear hr hll hlo hlet hnd HLT HP d1 hlI hn4 hl hw
  go_wp2_with fail
  refine (HLT2.out w2 HB2.out).mono ?_
  rintro e w3 ⟨u, rfl, hr⟩
  have hll := Ls.lett_len bs
  have hlo := Ls.lett_ok bs
  obtain ⟨v, hlet⟩ : ∃ v, Ls.lett bs = v := ⟨_, rfl⟩
  rw [hlet] at hr hll hlo
  obtain ⟨b, d, rfl, hw, hnd⟩ := hr.open_ (fun s hs => by have := hlo s hs; omega)
  have hm40 : v.length ≤ 40 := by omega
  have HB3 := Lib.hid (HB2.out.trans (hr.2.mono HB2.out.size))
  replace HF1_ := Lib.hid (HF1_.out.later hr.2)
  have HF2_ := Lib.hid hw
  have HO2 := Lib.hid (show ∀ s ∈ v, s.length ≤ 1000 from fun s hs => by have := hlo s hs; omega)
  clear hr hll hlo hlet hnd HLT2 HP2 d2 hlI2 hm4 hl2 hw
  have hpush := push_any a cap l front b d v w3 HF1_.out HF2_.out (by omega) (fun s hs => by have := HO.out s hs; omega) (fun s hs => by have := HO2.out s hs; omega)
  have hlnI : (l.length : Int) ≤ 40 := by omega
  have hvnI : (v.length : Int) ≤ 40 := by omega
  have hms : ∀ s ∈ Ls.pushS l v front, s.length ≤ 1000 := by
    intro s hs
    unfold Ls.pushS at hs
    split at hs
    · rcases List.mem_append.1 hs with h | h
      · exact HO2.out s (List.mem_reverse.1 h)
      · exact HO.out s h
    · rcases List.mem_append.1 hs with h | h
      · exact HO.out s h
      · exact HO2.out s h
  have hml : (Ls.pushS l v front).length = l.length + v.length := by
    unfold Ls.pushS
    split
    · rw [List.length_append, List.length_reverse]; omega
    · rw [List.length_append]
  have e0 : IntKind.i64.wrap ((l.length : Int) + (v.length : Int)) = ((l.length + v.length : Nat) : Int) := by rw [IntWalk.i64_in _ (by omega)]; omega
  cases front
  · skip
    obtain ⟨m, hmm⟩ : ∃ m, Ls.pushS l v false = m := ⟨_, rfl⟩
    rw [hmm] at hpush hms hml
    rw [← hml] at e0
    have z0 : ((m.length : Int) != (m.length : Int)) = false := by simp
    have HPU := Lib.hid hpush
    have HMS := Lib.hid hms
    have HML := Lib.hid hml
    have HMM := Lib.hid hmm
    have hml80 : m.length ≤ 80 := by omega
    clear hpush hms hml hmm
    go_wp2_with fail
    refine HPU.out.mono ?_
    rintro e w4 ⟨u4, rfl, hr⟩
    obtain ⟨a4, c4, rfl, hw4, -⟩ := hr.open_ (fun s hs => by have := HMS.out s hs; omega)
    have HB4 := Lib.hid (HB3.out.trans (hr.2.mono HB3.out.size))
    replace HF1_ := Lib.hid (HF1_.out.later hr.2)
    replace HF2_ := Lib.hid (HF2_.out.later hr.2)
    have HF4_ := Lib.hid hw4
    clear hr hw4
    go_wp2_with fail
    clear e0 z0
    go_loopw [6, 10] (fun rr i wr => ∃ q : Nat, q ≤ v.length ∧ rr = .bool false ∧ i = .int .i64 q ∧ Hid (Below w4.heap.size w4 wr)) (fun _ i _ => v.length - (intOf i).toNat)
    case atStart => exact ⟨0, Nat.zero_le _, rfl, rfl, Lib.hid (Below.refl _ _)⟩
    case round =>
      obtain ⟨q, hq, rfl, rfl, HK⟩ := hrel
      by_cases hlt : q < v.length
      · obtain ⟨b2, o2, rfl, hb2, hc2⟩ := HF2_.out.get (by omega)
        have y2 := (HK.out.cell (p := ⟨b2, o2 + q, none⟩) hb2).trans (hc2 q hlt)
        have k0 : (0 : Int) ≤ (q : Int) := by omega
        have k1 : (q : Int) < (v.length : Int) := by omega
        obtain ⟨K, hK⟩ : ∃ K, v.length - q = K := ⟨_, rfl⟩
        have e1 : IntKind.i64.wrap ((v.length : Int) - (q : Int)) = (K : Int) := by rw [IntWalk.i64_in _ (by omega)]; omega
        have hKb : K ≤ 40 := by omega
        have e2 : IntKind.i64.wrap (-(K : Int)) = -(K : Int) := IntWalk.i64_in _ (by omega)
        have hat := at_any a4 c4 m (-(K : Int)) wr (HF4_.out.later HK.out) (by omega) (by omega) (fun s hs => by have := HMS.out s hs; omega)
        have hea := end_at (l := l) hlt
        rw [show l ++ v = m from HMM.out, hK] at hea
        rw [hea.1, hea.2] at hat
        have HAT := Lib.hid hat
        clear hat hea hc2 hK
        generalize v.getD q [] = x at *
        have hnx : (x != x) = false := by simp
        have hnx2 : (x == x) = true := by simp
        go_wp2_with fail
        refine HAT.out.mono ?_
        rintro e w5 ⟨rfl, hb⟩
        replace y2 := (hb.cell (World.block_lt_of_cell? _ _ y2)).trans y2
        have HK5 := Lib.hid (HK.out.trans (hb.mono HK.out.size))
        clear hb
        go_wp2_with fail
        go_roundw
        case rel => exact ⟨q + 1, by omega, rfl, by go_num, HK5⟩
        case measure => simp [intOf]; omega
      · obtain rfl : q = v.length := by omega
        have HBR := Lib.hid (HB4.out.trans (HK.out.mono HB4.out.size))
        have e3 : IntKind.i64.wrap ((l.length : Int) - 1) = (l.length : Int) - 1 := IntWalk.i64_in _ (by omega)
        have hsub := sub_any a4 c4 m 0 ((l.length : Int) - 1) wr (HF4_.out.later HK.out) (by omega) (by omega) (by omega) (by omega) (by omega) (fun s hs => by have := HMS.out s hs; omega)
        have hso := sub_ok (x := 0) (y := (l.length : Int) - 1) HMS.out
        have HFL := Lib.hid (HF1_.out.later HK.out)
        by_cases hL : 0 < l.length
        · have hs := Ls.sub_cut (l := m) hL (by have := HML.out; omega)
          rw [show m.take l.length = l by rw [← HMM.out]; exact List.take_left] at hs
          rw [hs] at hsub hso
          have HSU := Lib.hid hsub
          have HSO := Lib.hid hso
          have c1 : (0 : Int) < (l.length : Int) := by omega
          have c2 : decide ((0 : Int) < (l.length : Int)) = true := decide_eq_true c1
          clear hs hsub hso
          go_wp2_with fail
          refine HSU.out.mono ?_
          rintro e w5 ⟨u5, rfl, hr⟩
          obtain ⟨a5, c5, rfl, hw5⟩ := hr.words HSO.out
          have HB5 := Lib.hid (HBR.out.trans (hr.2.mono HBR.out.size))
          have HT := Lib.hid (texts_any _ _ _ _ _ _ w5 hw5 (HFL.out.later hr.2))
          clear hr hw5
          go_wp2_with fail
          refine HT.out.mono ?_
          rintro e w6 ⟨rfl, hb⟩
          have HB6 := Lib.hid (HB5.out.trans (hb.mono HB5.out.size))
          clear hb
          simp only [decide_true]
          go_wp2_with fail
          refine (HAW.out w6 HB6.out).mono ?_
          rintro e w7 ⟨rfl, hb⟩
          have HB7 := Lib.hid hb
          clear hb
          go_wp2_with fail
          go_ret
          exact ⟨rfl, HB7.out⟩
        · have hl0 : l = [] := List.eq_nil_of_length_eq_zero (by omega)
          have hs : Ls.subS m 0 ((l.length : Int) - 1) = m := by rw [show ((l.length : Int) - 1) = -1 by rw [hl0]; rfl]; exact Ls.sub_all m
          rw [hs] at hsub hso
          have HSU := Lib.hid hsub
          have HSO := Lib.hid hso
          have HL0 := Lib.hid hl0
          have c0 : (l.length : Int) = 0 := by rw [hl0]; rfl
          have HC0 := Lib.hid c0
          clear hs hsub hso hl0 hL c0
          have c1 : ¬ (0 : Int) < (l.length : Int) := by have := HC0.out; omega
          have c2 : decide ((0 : Int) < (l.length : Int)) = false := decide_eq_false c1
          go_wp2_with fail
          refine HSU.out.mono ?_
          rintro e w5 ⟨u5, rfl, hr⟩
          obtain ⟨a5, c5, rfl, hw5⟩ := hr.words HSO.out
          have HB5 := Lib.hid (HBR.out.trans (hr.2.mono HBR.out.size))
          have HT := Lib.hid (texts_any _ _ _ _ _ _ w5 hw5 (HFL.out.later hr.2))
          clear hr hw5
          go_wp2_with fail
          refine HT.out.mono ?_
          rintro e w6 ⟨rfl, hb⟩
          have HB6 := Lib.hid (HB5.out.trans (hb.mono HB5.out.size))
          clear hb
          by_cases hm0 : m.length = 0
          · have hd : decide (m = l) = true := by rw [decide_eq_true_eq, HL0.out]; exact List.eq_nil_of_length_eq_zero hm0
            have c3 : ((m.length : Int) == 0) = true := by rw [beq_iff_eq]; omega
            rw [hd]
            clear hm0 hd
            go_wp2_with fail
            refine (HAW.out w6 HB6.out).mono ?_
            rintro e w7 ⟨rfl, hb⟩
            have HB7 := Lib.hid hb
            clear hb
            go_wp2_with fail
            go_ret
            exact ⟨rfl, HB7.out⟩
          · have hd : decide (m = l) = false := by rw [decide_eq_false_iff_not, HL0.out]; intro e; rw [e] at hm0; exact hm0 rfl
            have c3 : ((m.length : Int) == 0) = false := by rw [beq_eq_false_iff_ne]; omega
            rw [hd]
            clear hm0 hd
            go_wp2_with fail
            refine (HAW.out w6 HB6.out).mono ?_
            rintro e w7 ⟨rfl, hb⟩
            have HB7 := Lib.hid hb
            clear hb
            go_wp2_with fail
            go_ret
            exact ⟨rfl, HB7.out⟩
  · skip
    obtain ⟨m, hmm⟩ : ∃ m, Ls.pushS l v true = m := ⟨_, rfl⟩
    rw [hmm] at hpush hms hml
    rw [← hml] at e0
    have z0 : ((m.length : Int) != (m.length : Int)) = false := by simp
    have HPU := Lib.hid hpush
    have HMS := Lib.hid hms
    have HML := Lib.hid hml
    have HMM := Lib.hid hmm
    have hml80 : m.length ≤ 80 := by omega
    clear hpush hms hml hmm
    go_wp2_with fail
    refine HPU.out.mono ?_
    rintro e w4 ⟨u4, rfl, hr⟩
    obtain ⟨a4, c4, rfl, hw4, -⟩ := hr.open_ (fun s hs => by have := HMS.out s hs; omega)
    have HB4 := Lib.hid (HB3.out.trans (hr.2.mono HB3.out.size))
    replace HF1_ := Lib.hid (HF1_.out.later hr.2)
    replace HF2_ := Lib.hid (HF2_.out.later hr.2)
    have HF4_ := Lib.hid hw4
    clear hr hw4
    go_wp2_with fail
    clear e0 z0
    go_loopw [6, 10] (fun rr i wr => ∃ q : Nat, q ≤ v.length ∧ rr = .bool false ∧ i = .int .i64 q ∧ Hid (Below w4.heap.size w4 wr)) (fun _ i _ => v.length - (intOf i).toNat)
    case atStart => exact ⟨0, Nat.zero_le _, rfl, rfl, Lib.hid (Below.refl _ _)⟩
    case round =>
      obtain ⟨q, hq, rfl, rfl, HK⟩ := hrel
      by_cases hlt : q < v.length
      · obtain ⟨b2, o2, rfl, hb2, hc2⟩ := HF2_.out.get (by omega)
        obtain ⟨b4, o4, rfl, hb4, hc4⟩ := HF4_.out.get (by have := HML.out; omega)
        have hrg := rev_getD (l := l) hlt
        rw [show v.reverse ++ l = m from HMM.out] at hrg
        have y2 := (HK.out.cell (p := ⟨b2, o2 + q, none⟩) hb2).trans (hc2 q hlt)
        have y4 := (HK.out.cell (p := ⟨b4, o4 + (v.length - 1 - q), none⟩) hb4).trans (hc4 (v.length - 1 - q) (by have := HML.out; omega))
        rw [hrg] at y4
        have k0 : (0 : Int) ≤ (q : Int) := by omega
        have k1 : (q : Int) < (v.length : Int) := by omega
        obtain ⟨j, hj⟩ : ∃ j, v.length - 1 - q = j := ⟨_, rfl⟩
        have e1 : IntKind.i64.wrap (-(v.length : Int)) = -(v.length : Int) := IntWalk.i64_in _ (by omega)
        have e2 : IntKind.i64.wrap (-(v.length : Int) + (q : Int)) = -(v.length : Int) + (q : Int) := IntWalk.i64_in _ (by omega)
        have e3 : IntKind.i64.wrap (-(v.length : Int) + (q : Int) + 1) = -(j : Int) := by rw [IntWalk.i64_in _ (by omega)]; omega
        have e4 : IntKind.i64.wrap (- -(j : Int)) = (j : Int) := by rw [IntWalk.i64_in _ (by omega)]; omega
        have e5 : IntKind.i64.wrap ((v.length : Int) - (q : Int)) = (v.length : Int) - (q : Int) := IntWalk.i64_in _ (by omega)
        have kj0 : (0 : Int) ≤ (j : Int) := by omega
        have kj1 : (j : Int) < (m.length : Int) := by have := HML.out; omega
        have kTj : ((j : Int)).toNat = j := by omega
        have kT : ((q : Int)).toNat = q := by omega
        have kjn : j < m.length := by omega
        rw [hj] at y4
        clear hc2 hc4 hrg hj
        generalize v.getD q [] = x at *
        have hnx : (x != x) = false := by simp
        have hnx2 : (x == x) = true := by simp
        go_wp2_with fail
        go_quiet (fail)
        go_wp2_with fail
        go_roundw
        case rel => exact ⟨q + 1, by omega, rfl, by go_num, Lib.hid (below_drewN HK.out _)⟩
        case measure => simp [intOf]; omega
      · obtain rfl : q = v.length := by omega
        have HBR := Lib.hid (HB4.out.trans (HK.out.mono HB4.out.size))
        have hsub := sub_any a4 c4 m (v.length : Int) (-1) wr (HF4_.out.later HK.out) (by omega) (by omega) (by omega) (by omega) (by omega) (fun s hs => by have := HMS.out s hs; omega)
        have hso := sub_ok (x := (v.length : Int)) (y := -1) HMS.out
        have HFL := Lib.hid (HF1_.out.later HK.out)
        have hs := Ls.sub_tail (l := m) (n := v.length) (by have := HML.out; omega)
        rw [show m.drop v.length = l by rw [← HMM.out, show v.length = v.reverse.length by simp]; exact List.drop_left] at hs
        rw [hs] at hsub hso
        have HSU := Lib.hid hsub
        have HSO := Lib.hid hso
        clear hs hsub hso
        go_wp2_with fail
        refine HSU.out.mono ?_
        rintro e w5 ⟨u5, rfl, hr⟩
        obtain ⟨a5, c5, rfl, hw5⟩ := hr.words HSO.out
        have HB5 := Lib.hid (HBR.out.trans (hr.2.mono HBR.out.size))
        have HT := Lib.hid (texts_any _ _ _ _ _ _ w5 hw5 (HFL.out.later hr.2))
        clear hr hw5
        go_wp2_with fail
        refine HT.out.mono ?_
        rintro e w6 ⟨rfl, hb⟩
        have HB6 := Lib.hid (HB5.out.trans (hb.mono HB5.out.size))
        clear hb
        simp only [decide_true]
        go_wp2_with fail
        refine (HAW.out w6 HB6.out).mono ?_
        rintro e w7 ⟨rfl, hb⟩
        have HB7 := Lib.hid hb
        clear hb
        go_wp2_with fail
        go_ret
        exact ⟨rfl, HB7.out⟩
end Go.Proofs.Ytjfjlbgbdjcecaa
