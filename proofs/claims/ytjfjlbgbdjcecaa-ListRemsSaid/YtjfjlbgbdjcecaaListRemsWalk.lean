/- The walk of ListRems: so many go as are said, or as there are, from the side that is said; the others stay in order. -/
import Derived.Test.YtjfjlbgbdjcecaaLsRefRem
import Derived.Test.YtjfjlbgbdjcecaaLsLetters
import Derived.BigQuiet
namespace Go.Proofs.Ytjfjlbgbdjcecaa
open Go.RowKit Go.Shelf
set_option linter.unusedVariables false
set_option linter.unusedSimpArgs false

theorem getD_pre {m D t : List Ls.Bs} {x : Ls.Bs} (h : m = D ++ [x] ++ t) : D.length < m.length ∧ m.getD D.length [] = x := by
  subst h
  refine ⟨by simp, ?_⟩
  rw [List.getD, List.append_assoc, List.getElem?_append_right (Nat.le_refl _)]
  simp
theorem drop_stays_at {l : List Ls.Bs} {v : Ls.Bs} {lo hi q : Nat} (hq : q < l.length) (h : Ls.goneB l v lo hi q = false) :
    (Ls.dropK l v lo hi q).length < (Ls.dropK l v lo hi l.length).length ∧ (Ls.dropK l v lo hi l.length).getD (Ls.dropK l v lo hi q).length [] = l.getD q [] := by
  obtain ⟨t, ht⟩ := Ls.dropK_pre l v lo hi (k := q + 1) (j := l.length) (by omega)
  rw [Ls.dropK_stays h] at ht
  exact getD_pre ht.symm
theorem remN_zero (l : List Ls.Bs) (v : Ls.Bs) : Ls.remN l v 0 = Ls.allN l v ∧ Ls.loN l v 0 = 0 ∧ Ls.hiN l v 0 = Ls.allN l v := by
  unfold Ls.remN Ls.hiN Ls.loN
  simp
theorem remN_pos {l : List Ls.Bs} {v : Ls.Bs} {n : Int} (h : 0 < n) : Ls.remN l v n = min n.natAbs (Ls.allN l v) ∧ Ls.loN l v n = 0 ∧ Ls.hiN l v n = min n.natAbs (Ls.allN l v) := by
  unfold Ls.remN Ls.hiN Ls.loN
  rw [if_pos h, if_neg (by omega)]
  simp
theorem remN_neg {l : List Ls.Bs} {v : Ls.Bs} {n : Int} (h : n < 0) : Ls.remN l v n = min n.natAbs (Ls.allN l v) ∧ Ls.loN l v n = Ls.allN l v - n.natAbs ∧ Ls.hiN l v n = Ls.allN l v := by
  unfold Ls.remN Ls.hiN Ls.loN
  rw [if_neg (by omega), if_pos h]
  refine ⟨by omega, rfl, rfl⟩
theorem rem_len (l : List Ls.Bs) (v : Ls.Bs) (n : Int) : (Ls.remS l v n).length + Ls.remN l v n = l.length := by
  have := Ls.dropK_len (ws := l) (v := v) (lo := Ls.loN l v n) (hi := Ls.hiN l v n) (Nat.le_refl _)
  rwa [Ls.wentK_all] at this

set_option maxRecDepth 100000 in
set_option maxHeartbeats 16000000 in
theorem listRems_walk (p : Option Addr) (cp : Nat) (ns : List UInt8) (n y : Int) (w : World) (hP : Bytes w p ns) (hl : ns.length ≤ 9223372036854775807) (hk : -128 ≤ n) (hk2 : n ≤ 127) (hy0 : 0 ≤ y) (hy1 : y ≤ 255) :
    Calls Try.prog 5 #[.slice p ns.length cp, .int .i8 n, .int .u8 y] w fun e W => e = .returned (.bool true) ∧ Below w.heap.size w W := by
  have hawk : ∀ W, Below w.heap.size w W → Calls Try.prog 9 #[] W fun e W' => e = .returned (.bool true) ∧ Below w.heap.size w W' := fun W h => (awake_any W).mono fun e W' ⟨he, hb⟩ => ⟨he, h.trans (hb.mono h.size)⟩
  have HAW := Lib.hid hawk
  have HP := Lib.hid hP
  have hlI : (ns.length : Int) ≤ 9223372036854775807 := by omega
  clear hawk hP
  go_enter Try.func5, Try.ntmps5
  by_cases hn6 : ns.length ≤ 60
  rotate_left
  · have d1 : (60 : Int) < (ns.length : Int) := by omega
    clear hn6
    go_wp2_with fail
    refine (HAW.out w (Below.refl _ _)).mono ?_
    rintro e w2 ⟨rfl, hb⟩
    have HB2 := Lib.hid hb
    clear hb
    go_wp2_with fail
    go_ret
    exact ⟨rfl, HB2.out⟩
  have d1 : ¬ (60 : Int) < (ns.length : Int) := by omega
  have HLT := Lib.hid (letters_any p cp ns w HP.out (by omega))
  go_wp2_with fail
  refine HLT.out.mono ?_
  rintro e w2 ⟨u, rfl, hr⟩
  have hll := Ls.lett_len ns
  have hlo := Ls.lett_ok ns
  obtain ⟨l, hlet⟩ : ∃ l, Ls.lett ns = l := ⟨_, rfl⟩
  rw [hlet] at hr hll hlo
  obtain ⟨a, cap, rfl, hw, hnd⟩ := hr.open_ (fun s hs => by have := hlo s hs; omega)
  have hn60 : l.length ≤ 60 := by omega
  have HB2 := Lib.hid hr.2
  have HF1_ := Lib.hid hw
  have HO := Lib.hid (show ∀ s ∈ l, s.length ≤ 1000000 from fun s hs => by have := hlo s hs; omega)
  clear hr hll hlo hlet hnd HLT HP d1 hlI hn6 hl hw
  have hlnI : (l.length : Int) ≤ 60 := by omega
  have w1' : IntKind.u8.wrap (97 + y % 4) = 97 + y % 4 := by rw [IntKind.wrap_u8]; omega
  have kc := conv1
  obtain ⟨c8, hc8⟩ : ∃ c8, UInt8.ofNat (97 + y % 4).toNat = c8 := ⟨_, rfl⟩
  go_wp2_with fail
  clear kc w1' hc8 hy0 hy1
  obtain ⟨v, hv⟩ : ∃ v : Ls.Bs, [c8] = v := ⟨_, rfl⟩
  rw [show (⟨#[c8]⟩ : ByteArray) = ⟨v.toArray⟩ by rw [← hv]]
  clear hv
  obtain ⟨w3, hw3⟩ : ∃ w3, w2.alloc (.cells #[.int .u8 (97 + y % 4)] 5) = w3 := ⟨_, rfl⟩
  rw [hw3]
  have hb3 : Below w2.heap.size w2 w3 := by rw [← hw3]; exact (Below.refl _ _).alloc (Nat.le_refl _) _
  have HB3 := Lib.hid (HB2.out.trans (hb3.mono HB2.out.size))
  replace HF1_ := Lib.hid (HF1_.out.later hb3)
  clear hw3 hb3
  go_loop [9, 10] (fun s i => ∃ q : Nat, q ≤ l.length ∧ i = .int .i64 q ∧ s = .int .i64 (Ls.seen l v q)) (fun _ i => l.length - (intOf i).toNat)
  case atStart => exact ⟨0, Nat.zero_le _, rfl, by rw [Ls.seen_zero]; rfl⟩
  case round =>
    obtain ⟨q, hq, rfl, rfl⟩ := hrel
    have hsl := Ls.seen_le l v q
    by_cases hlt : q < l.length
    · obtain ⟨b, off, rfl, hb, hc⟩ := HF1_.out.get (by omega)
      have y0 := hc q hlt
      have k0 : (0 : Int) ≤ (q : Int) := by omega
      have k1 : (q : Int) < (l.length : Int) := by omega
      by_cases he : l.getD q [] = v
      · have HS := Lib.hid (seen_yes hlt he)
        rw [he] at y0
        have hne : (v != v) = false := by simp
        have hne2 : (v == v) = true := by simp
        clear hc he
        generalize Ls.seen l v q = s0 at *
        go_wp2
        go_round
        case rel => exact ⟨q + 1, by omega, by go_num, by rw [HS.out]; go_num⟩
        case measure => simp [intOf]; omega
      · have HS := Lib.hid (seen_no hlt he)
        obtain ⟨x, hx⟩ : ∃ x, l.getD q [] = x := ⟨_, rfl⟩
        rw [hx] at y0 he
        have hne : (x != v) = true := by simpa using he
        have hne2 : (x == v) = false := by simpa using he
        clear hc he hx
        generalize Ls.seen l v q = s0 at *
        go_wp2
        go_round
        case rel => exact ⟨q + 1, by omega, by go_num, by rw [HS.out]⟩
        case measure => simp [intOf]; omega
    · obtain rfl : q = l.length := by omega
      rw [Ls.seen_all] at *
      have hal := Ls.allN_le l v
      have hrem := callsIn_wide.1 (rem_any a cap l n v w3 HF1_.out (by omega) (by omega) (by omega) HO.out)
      have hrl := rem_len l v n
      have hro : ∀ s ∈ Ls.remS l v n, s.length ≤ 9223372036854775807 := fun s hs => by have := HO.out s (Ls.dropK_mem (Nat.le_refl _) hs); omega
      have HRS : Hid (∀ lo hi, lo = Ls.loN l v n → hi = Ls.hiN l v n → Ls.dropK l v lo hi l.length = Ls.remS l v n) := Lib.hid fun lo hi h1 h2 => by rw [h1, h2]; rfl
      have ek : IntKind.i64.wrap n = n := IntWalk.i64_in _ (by omega)
      have ek2 : IntKind.i64.wrap (-n) = -n := IntWalk.i64_in _ (by omega)
      clear hsl
      by_cases hz : n = 0
      · subst hz
        obtain ⟨r1, r2, r3⟩ := remN_zero l v
        rw [r1] at hrem hrl
        obtain ⟨R, hR⟩ : ∃ R, Ls.allN l v = R := ⟨_, rfl⟩
        rw [hR] at hrem hrl r3 hal ⊢
        obtain ⟨hi', hh⟩ : ∃ hi', hi' = R := ⟨_, rfl⟩
        have hlo : 0 = Ls.loN l v 0 := r2.symm
        have hhi : hi' = Ls.hiN l v 0 := by rw [r3, hh]
        subst hh
        have n1 : ((0 : Int) != 0) = false := by simp
        clear r1 r2 r3 hR ek ek2
        obtain ⟨m, hmm⟩ : ∃ m, Ls.remS l v 0 = m := ⟨_, rfl⟩
        have HDM := Lib.hid ((HRS.out 0 hi' hlo hhi).trans hmm)
        rw [hmm] at hrem hro hrl
        have HREM := Lib.hid hrem
        have HRO := Lib.hid hro
        have e5 : IntKind.i64.wrap ((l.length : Int) - (hi' : Int)) = (m.length : Int) := by rw [IntWalk.i64_in _ (by omega)]; omega
        have z1 : ((hi' : Int) != (hi' : Int)) = false := by simp
        have hml : m.length ≤ 60 := by omega
        clear hrem hro hrl hlo hhi hmm HRS
        have z2 : ((m.length : Int) != (m.length : Int)) = false := by simp
        go_wp2_with fail
        refine HREM.out.mono ?_
        rintro e w4 ⟨u4, rfl, hr⟩
        obtain ⟨a4, c4, rfl, hw4, -⟩ := hr.open_ HRO.out
        have HB4 := Lib.hid (HB3.out.trans (hr.2.mono HB3.out.size))
        replace HF1_ := Lib.hid (HF1_.out.later hr.2)
        have HF4_ := Lib.hid hw4
        clear hr hw4
        go_wp2_with fail
        go_loopw [6, 15, 16, 17] (fun rr g s i wr => ∃ q : Nat, q ≤ l.length ∧ rr = .bool false ∧ i = .int .i64 q ∧ s = .int .i64 (Ls.seen l v q) ∧ g = .int .i64 ((Ls.dropK l v 0 hi' q).length : Int) ∧ Hid (Below w4.heap.size w4 wr)) (fun _ _ _ i _ => l.length - (intOf i).toNat)
        case atStart => exact ⟨0, Nat.zero_le _, rfl, rfl, by rw [Ls.seen_zero]; rfl, rfl, Lib.hid (Below.refl _ _)⟩
        case round =>
          obtain ⟨q, hq, rfl, rfl, rfl, rfl, HK⟩ := hrel
          have hsl2 := Ls.seen_le l v q
          have hdl := Ls.dropK_le l v 0 hi' q
          by_cases hlt : q < l.length
          · obtain ⟨b1, o1, rfl, hb1, hc1⟩ := HF1_.out.get (by omega)
            have y1 := (HK.out.cell (p := ⟨b1, o1 + q, none⟩) hb1).trans (hc1 q hlt)
            have k0 : (0 : Int) ≤ (q : Int) := by omega
            have k1 : (q : Int) < (l.length : Int) := by omega
            have kT : ((q : Int)).toNat = q := by omega
            clear hc1
            by_cases hgo : Ls.goneB l v 0 hi' q = true
            · have HD := Lib.hid (show (Ls.dropK l v 0 hi' (q + 1)).length = (Ls.dropK l v 0 hi' q).length by rw [Ls.dropK_gone hgo])
              have he : l.getD q [] = v := by
                by_cases he : l.getD q [] = v
                · exact he
                · rw [gone_no he] at hgo; cases hgo
              rw [gone_is he, Bool.and_eq_true, decide_eq_true_eq, decide_eq_true_eq] at hgo
              obtain ⟨g1, g2⟩ := hgo
              have HS := Lib.hid (seen_yes hlt he)
              rw [he] at y1
              have hne : (v != v) = false := by simp
              have hne2 : (v == v) = true := by simp
              clear he
              generalize Ls.seen l v q = s0 at *
              have c1 : (0 : Int) < (s0 : Int) + 1 := by omega
              have c2 : (s0 : Int) + 1 ≤ (hi' : Int) := by omega
              have c3 : 0 < s0 + 1 := by omega
              have c4 : s0 + 1 ≤ hi' := by omega
              have c5 : decide (0 < s0 + 1) = true := decide_eq_true c3
              have c6 : decide (s0 + 1 ≤ hi') = true := decide_eq_true c4
              have c7 : decide ((0 : Int) < (s0 : Int) + 1) = true := decide_eq_true c1
              generalize (Ls.dropK l v 0 hi' q).length = g0 at *
              go_wp2
              go_roundw
              case rel => exact ⟨q + 1, by omega, rfl, by go_num, by rw [HS.out]; go_num, by rw [HD.out], HK⟩
              case measure => simp [intOf]; omega
            · have hgo : Ls.goneB l v 0 hi' q = false := by simpa using hgo
              obtain ⟨x1, x2⟩ := drop_stays_at hlt hgo
              have HD := Lib.hid (show (Ls.dropK l v 0 hi' (q + 1)).length = (Ls.dropK l v 0 hi' q).length + 1 by rw [Ls.dropK_stays hgo, List.length_append]; rfl)
              rw [HDM.out] at x1 x2
              obtain ⟨b4, o4, rfl, hb4, hc4⟩ := HF4_.out.get (by omega)
              have y4 := (HK.out.cell (p := ⟨b4, o4 + (Ls.dropK l v 0 hi' q).length, none⟩) hb4).trans (hc4 _ x1)
              rw [x2] at y4
              clear hc4 x2
              by_cases he : l.getD q [] = v
              · rw [gone_is he] at hgo
                have HS := Lib.hid (seen_yes hlt he)
                rw [he] at y1 y4
                have hne : (v != v) = false := by simp
                have hne2 : (v == v) = true := by simp
                clear he
                generalize Ls.seen l v q = s0 at *
                generalize (Ls.dropK l v 0 hi' q).length = g0 at *
                have k2 : (0 : Int) ≤ (g0 : Int) := by omega
                have k3 : (g0 : Int) < (m.length : Int) := by omega
                have k4 : decide (m.length ≤ g0) = false := by rw [decide_eq_false_iff_not]; omega
                have k5 : decide ((m.length : Int) ≤ (g0 : Int)) = false := by rw [decide_eq_false_iff_not]; omega
                have kT2 : ((g0 : Int)).toNat = g0 := by omega
                by_cases g1 : 0 ≤ s0
                · have g2 : ¬ s0 < hi' := by
                    intro h
                    rw [decide_eq_true g1, decide_eq_true h] at hgo
                    cases hgo
                  have c1 : (0 : Int) < (s0 : Int) + 1 := by omega
                  have c2 : ¬ (s0 : Int) + 1 ≤ (hi' : Int) := by omega
                  have c3 : 0 < s0 + 1 := by omega
                  have c4 : ¬ s0 + 1 ≤ hi' := by omega
                  have c4b : hi' < s0 + 1 := by omega
                  have c5 : decide (0 < s0 + 1) = true := decide_eq_true c3
                  have c6 : decide (s0 + 1 ≤ hi') = false := decide_eq_false c4
                  have c7 : decide ((0 : Int) < (s0 : Int) + 1) = true := decide_eq_true c1
                  clear hgo
                  go_wp2
                  go_quiet (fail)
                  go_wp2
                  go_roundw
                  case rel => exact ⟨q + 1, by omega, rfl, by go_num, by rw [HS.out]; go_num, by rw [HD.out]; go_num, Lib.hid (below_drewN HK.out _)⟩
                  case measure => simp [intOf]; omega
                · exact absurd (Nat.zero_le _) g1
              · have HS := Lib.hid (seen_no hlt he)
                obtain ⟨x, hx⟩ : ∃ x, l.getD q [] = x := ⟨_, rfl⟩
                rw [hx] at y1 y4 he
                have hne : (x != v) = true := by simpa using he
                have hne2 : (x == v) = false := by simpa using he
                have hnx : (x != x) = false := by simp
                have hnx2 : (x == x) = true := by simp
                clear hx he hgo
                generalize Ls.seen l v q = s0 at *
                generalize (Ls.dropK l v 0 hi' q).length = g0 at *
                have k2 : (0 : Int) ≤ (g0 : Int) := by omega
                have k3 : (g0 : Int) < (m.length : Int) := by omega
                have k4 : decide (m.length ≤ g0) = false := by rw [decide_eq_false_iff_not]; omega
                have k5 : decide ((m.length : Int) ≤ (g0 : Int)) = false := by rw [decide_eq_false_iff_not]; omega
                have kT2 : ((g0 : Int)).toNat = g0 := by omega
                go_wp2
                go_quiet (fail)
                go_wp2
                go_roundw
                case rel => exact ⟨q + 1, by omega, rfl, by go_num, by rw [HS.out], by rw [HD.out]; go_num, Lib.hid (below_drewN HK.out _)⟩
                case measure => simp [intOf]; omega
          · obtain rfl : q = l.length := by omega
            rw [HDM.out]
            have hbw := HB4.out.trans (HK.out.mono HB4.out.size)
            have z9 : ((m.length : Int) == (m.length : Int)) = true := by simp
            generalize Ls.seen l v l.length = s0 at *
            go_wp2_with fail
            refine (HAW.out wr hbw).mono ?_
            rintro e w6 ⟨rfl, hb⟩
            have HB6 := Lib.hid hb
            clear hb
            go_wp2_with fail
            go_ret
            exact ⟨rfl, HB6.out⟩
      have n1 : (n != 0) = true := by rw [bne_iff_ne]; exact hz
      have n2 : (n == 0) = false := by rw [beq_eq_false_iff_ne]; exact hz
      by_cases hp : 0 < n
      · obtain ⟨r1, r2, r3⟩ := remN_pos (l := l) (v := v) hp
        obtain ⟨R, hR⟩ : ∃ R, Ls.remN l v n = R := ⟨_, rfl⟩
        rw [hR] at hrem hrl r1
        obtain ⟨hi', hh⟩ : ∃ hi', hi' = R := ⟨_, rfl⟩
        have hlo : 0 = Ls.loN l v n := r2.symm
        have hhi : hi' = Ls.hiN l v n := by rw [r3, hh, r1]
        subst hh
        have hm : min (Ls.allN l v : Int) (max n (-n)) = (hi' : Int) := by omega
        have n3 : ¬ n < 0 := by omega
        clear r1 r2 r3 hR
        generalize Ls.allN l v = al at *
        obtain ⟨m, hmm⟩ : ∃ m, Ls.remS l v n = m := ⟨_, rfl⟩
        have HDM := Lib.hid ((HRS.out 0 hi' hlo hhi).trans hmm)
        rw [hmm] at hrem hro hrl
        have HREM := Lib.hid hrem
        have HRO := Lib.hid hro
        have e5 : IntKind.i64.wrap ((l.length : Int) - (hi' : Int)) = (m.length : Int) := by rw [IntWalk.i64_in _ (by omega)]; omega
        have z1 : ((hi' : Int) != (hi' : Int)) = false := by simp
        have hml : m.length ≤ 60 := by omega
        clear hrem hro hrl hlo hhi hmm HRS
        have z2 : ((m.length : Int) != (m.length : Int)) = false := by simp
        go_wp2_with fail
        refine HREM.out.mono ?_
        rintro e w4 ⟨u4, rfl, hr⟩
        obtain ⟨a4, c4, rfl, hw4, -⟩ := hr.open_ HRO.out
        have HB4 := Lib.hid (HB3.out.trans (hr.2.mono HB3.out.size))
        replace HF1_ := Lib.hid (HF1_.out.later hr.2)
        have HF4_ := Lib.hid hw4
        clear hr hw4
        go_wp2_with fail
        go_loopw [6, 15, 16, 17] (fun rr g s i wr => ∃ q : Nat, q ≤ l.length ∧ rr = .bool false ∧ i = .int .i64 q ∧ s = .int .i64 (Ls.seen l v q) ∧ g = .int .i64 ((Ls.dropK l v 0 hi' q).length : Int) ∧ Hid (Below w4.heap.size w4 wr)) (fun _ _ _ i _ => l.length - (intOf i).toNat)
        case atStart => exact ⟨0, Nat.zero_le _, rfl, rfl, by rw [Ls.seen_zero]; rfl, rfl, Lib.hid (Below.refl _ _)⟩
        case round =>
          obtain ⟨q, hq, rfl, rfl, rfl, rfl, HK⟩ := hrel
          have hsl2 := Ls.seen_le l v q
          have hdl := Ls.dropK_le l v 0 hi' q
          by_cases hlt : q < l.length
          · obtain ⟨b1, o1, rfl, hb1, hc1⟩ := HF1_.out.get (by omega)
            have y1 := (HK.out.cell (p := ⟨b1, o1 + q, none⟩) hb1).trans (hc1 q hlt)
            have k0 : (0 : Int) ≤ (q : Int) := by omega
            have k1 : (q : Int) < (l.length : Int) := by omega
            have kT : ((q : Int)).toNat = q := by omega
            clear hc1
            by_cases hgo : Ls.goneB l v 0 hi' q = true
            · have HD := Lib.hid (show (Ls.dropK l v 0 hi' (q + 1)).length = (Ls.dropK l v 0 hi' q).length by rw [Ls.dropK_gone hgo])
              have he : l.getD q [] = v := by
                by_cases he : l.getD q [] = v
                · exact he
                · rw [gone_no he] at hgo; cases hgo
              rw [gone_is he, Bool.and_eq_true, decide_eq_true_eq, decide_eq_true_eq] at hgo
              obtain ⟨g1, g2⟩ := hgo
              have HS := Lib.hid (seen_yes hlt he)
              rw [he] at y1
              have hne : (v != v) = false := by simp
              have hne2 : (v == v) = true := by simp
              clear he
              generalize Ls.seen l v q = s0 at *
              have c1 : (0 : Int) < (s0 : Int) + 1 := by omega
              have c2 : (s0 : Int) + 1 ≤ (hi' : Int) := by omega
              have c3 : 0 < s0 + 1 := by omega
              have c4 : s0 + 1 ≤ hi' := by omega
              have c5 : decide (0 < s0 + 1) = true := decide_eq_true c3
              have c6 : decide (s0 + 1 ≤ hi') = true := decide_eq_true c4
              have c7 : decide ((0 : Int) < (s0 : Int) + 1) = true := decide_eq_true c1
              generalize (Ls.dropK l v 0 hi' q).length = g0 at *
              go_wp2
              go_roundw
              case rel => exact ⟨q + 1, by omega, rfl, by go_num, by rw [HS.out]; go_num, by rw [HD.out], HK⟩
              case measure => simp [intOf]; omega
            · have hgo : Ls.goneB l v 0 hi' q = false := by simpa using hgo
              obtain ⟨x1, x2⟩ := drop_stays_at hlt hgo
              have HD := Lib.hid (show (Ls.dropK l v 0 hi' (q + 1)).length = (Ls.dropK l v 0 hi' q).length + 1 by rw [Ls.dropK_stays hgo, List.length_append]; rfl)
              rw [HDM.out] at x1 x2
              obtain ⟨b4, o4, rfl, hb4, hc4⟩ := HF4_.out.get (by omega)
              have y4 := (HK.out.cell (p := ⟨b4, o4 + (Ls.dropK l v 0 hi' q).length, none⟩) hb4).trans (hc4 _ x1)
              rw [x2] at y4
              clear hc4 x2
              by_cases he : l.getD q [] = v
              · rw [gone_is he] at hgo
                have HS := Lib.hid (seen_yes hlt he)
                rw [he] at y1 y4
                have hne : (v != v) = false := by simp
                have hne2 : (v == v) = true := by simp
                clear he
                generalize Ls.seen l v q = s0 at *
                generalize (Ls.dropK l v 0 hi' q).length = g0 at *
                have k2 : (0 : Int) ≤ (g0 : Int) := by omega
                have k3 : (g0 : Int) < (m.length : Int) := by omega
                have k4 : decide (m.length ≤ g0) = false := by rw [decide_eq_false_iff_not]; omega
                have k5 : decide ((m.length : Int) ≤ (g0 : Int)) = false := by rw [decide_eq_false_iff_not]; omega
                have kT2 : ((g0 : Int)).toNat = g0 := by omega
                by_cases g1 : 0 ≤ s0
                · have g2 : ¬ s0 < hi' := by
                    intro h
                    rw [decide_eq_true g1, decide_eq_true h] at hgo
                    cases hgo
                  have c1 : (0 : Int) < (s0 : Int) + 1 := by omega
                  have c2 : ¬ (s0 : Int) + 1 ≤ (hi' : Int) := by omega
                  have c3 : 0 < s0 + 1 := by omega
                  have c4 : ¬ s0 + 1 ≤ hi' := by omega
                  have c4b : hi' < s0 + 1 := by omega
                  have c5 : decide (0 < s0 + 1) = true := decide_eq_true c3
                  have c6 : decide (s0 + 1 ≤ hi') = false := decide_eq_false c4
                  have c7 : decide ((0 : Int) < (s0 : Int) + 1) = true := decide_eq_true c1
                  clear hgo
                  go_wp2
                  go_quiet (fail)
                  go_wp2
                  go_roundw
                  case rel => exact ⟨q + 1, by omega, rfl, by go_num, by rw [HS.out]; go_num, by rw [HD.out]; go_num, Lib.hid (below_drewN HK.out _)⟩
                  case measure => simp [intOf]; omega
                · exact absurd (Nat.zero_le _) g1
              · have HS := Lib.hid (seen_no hlt he)
                obtain ⟨x, hx⟩ : ∃ x, l.getD q [] = x := ⟨_, rfl⟩
                rw [hx] at y1 y4 he
                have hne : (x != v) = true := by simpa using he
                have hne2 : (x == v) = false := by simpa using he
                have hnx : (x != x) = false := by simp
                have hnx2 : (x == x) = true := by simp
                clear hx he hgo
                generalize Ls.seen l v q = s0 at *
                generalize (Ls.dropK l v 0 hi' q).length = g0 at *
                have k2 : (0 : Int) ≤ (g0 : Int) := by omega
                have k3 : (g0 : Int) < (m.length : Int) := by omega
                have k4 : decide (m.length ≤ g0) = false := by rw [decide_eq_false_iff_not]; omega
                have k5 : decide ((m.length : Int) ≤ (g0 : Int)) = false := by rw [decide_eq_false_iff_not]; omega
                have kT2 : ((g0 : Int)).toNat = g0 := by omega
                go_wp2
                go_quiet (fail)
                go_wp2
                go_roundw
                case rel => exact ⟨q + 1, by omega, rfl, by go_num, by rw [HS.out], by rw [HD.out]; go_num, Lib.hid (below_drewN HK.out _)⟩
                case measure => simp [intOf]; omega
          · obtain rfl : q = l.length := by omega
            rw [HDM.out]
            have hbw := HB4.out.trans (HK.out.mono HB4.out.size)
            have z9 : ((m.length : Int) == (m.length : Int)) = true := by simp
            generalize Ls.seen l v l.length = s0 at *
            go_wp2_with fail
            refine (HAW.out wr hbw).mono ?_
            rintro e w6 ⟨rfl, hb⟩
            have HB6 := Lib.hid hb
            clear hb
            go_wp2_with fail
            go_ret
            exact ⟨rfl, HB6.out⟩
      · have hng : n < 0 := by omega
        obtain ⟨r1, r2, r3⟩ := remN_neg (l := l) (v := v) hng
        obtain ⟨R, hR⟩ : ∃ R, Ls.remN l v n = R := ⟨_, rfl⟩
        rw [hR] at hrem hrl r1
        obtain ⟨lo, hlo0⟩ : ∃ lo, lo = Ls.loN l v n := ⟨_, rfl⟩
        obtain ⟨hi', hhi0⟩ : ∃ hi', hi' = Ls.hiN l v n := ⟨_, rfl⟩
        have hlo : lo = Ls.loN l v n := hlo0
        have hhi : hi' = Ls.hiN l v n := hhi0
        rw [r2] at hlo0
        rw [r3] at hhi0
        have hm : min (Ls.allN l v : Int) (max n (-n)) = (R : Int) := by omega
        have e6 : IntKind.i64.wrap ((Ls.allN l v : Int) - (R : Int)) = (lo : Int) := by rw [IntWalk.i64_in _ (by omega)]; omega
        have e7 : IntKind.i64.wrap ((lo : Int) + (R : Int)) = (hi' : Int) := by rw [IntWalk.i64_in _ (by omega)]; omega
        clear r1 r2 r3 hR hlo0 hhi0 hp
        generalize Ls.allN l v = al at *
        obtain ⟨m, hmm⟩ : ∃ m, Ls.remS l v n = m := ⟨_, rfl⟩
        have HDM := Lib.hid ((HRS.out lo hi' hlo hhi).trans hmm)
        rw [hmm] at hrem hro hrl
        have HREM := Lib.hid hrem
        have HRO := Lib.hid hro
        have e5 : IntKind.i64.wrap ((l.length : Int) - (R : Int)) = (m.length : Int) := by rw [IntWalk.i64_in _ (by omega)]; omega
        have z1 : ((R : Int) != (R : Int)) = false := by simp
        have hml : m.length ≤ 60 := by omega
        clear hrem hro hrl hlo hhi hmm HRS
        have z2 : ((m.length : Int) != (m.length : Int)) = false := by simp
        go_wp2_with fail
        refine HREM.out.mono ?_
        rintro e w4 ⟨u4, rfl, hr⟩
        obtain ⟨a4, c4, rfl, hw4, -⟩ := hr.open_ HRO.out
        have HB4 := Lib.hid (HB3.out.trans (hr.2.mono HB3.out.size))
        replace HF1_ := Lib.hid (HF1_.out.later hr.2)
        have HF4_ := Lib.hid hw4
        clear hr hw4
        go_wp2_with fail
        go_loopw [6, 15, 16, 17] (fun rr g s i wr => ∃ q : Nat, q ≤ l.length ∧ rr = .bool false ∧ i = .int .i64 q ∧ s = .int .i64 (Ls.seen l v q) ∧ g = .int .i64 ((Ls.dropK l v lo hi' q).length : Int) ∧ Hid (Below w4.heap.size w4 wr)) (fun _ _ _ i _ => l.length - (intOf i).toNat)
        case atStart => exact ⟨0, Nat.zero_le _, rfl, rfl, by rw [Ls.seen_zero]; rfl, rfl, Lib.hid (Below.refl _ _)⟩
        case round =>
          obtain ⟨q, hq, rfl, rfl, rfl, rfl, HK⟩ := hrel
          have hsl2 := Ls.seen_le l v q
          have hdl := Ls.dropK_le l v lo hi' q
          by_cases hlt : q < l.length
          · obtain ⟨b1, o1, rfl, hb1, hc1⟩ := HF1_.out.get (by omega)
            have y1 := (HK.out.cell (p := ⟨b1, o1 + q, none⟩) hb1).trans (hc1 q hlt)
            have k0 : (0 : Int) ≤ (q : Int) := by omega
            have k1 : (q : Int) < (l.length : Int) := by omega
            have kT : ((q : Int)).toNat = q := by omega
            clear hc1
            by_cases hgo : Ls.goneB l v lo hi' q = true
            · have HD := Lib.hid (show (Ls.dropK l v lo hi' (q + 1)).length = (Ls.dropK l v lo hi' q).length by rw [Ls.dropK_gone hgo])
              have he : l.getD q [] = v := by
                by_cases he : l.getD q [] = v
                · exact he
                · rw [gone_no he] at hgo; cases hgo
              rw [gone_is he, Bool.and_eq_true, decide_eq_true_eq, decide_eq_true_eq] at hgo
              obtain ⟨g1, g2⟩ := hgo
              have HS := Lib.hid (seen_yes hlt he)
              rw [he] at y1
              have hne : (v != v) = false := by simp
              have hne2 : (v == v) = true := by simp
              clear he
              generalize Ls.seen l v q = s0 at *
              have c1 : (lo : Int) < (s0 : Int) + 1 := by omega
              have c2 : (s0 : Int) + 1 ≤ (hi' : Int) := by omega
              have c3 : lo < s0 + 1 := by omega
              have c4 : s0 + 1 ≤ hi' := by omega
              have c5 : decide (lo < s0 + 1) = true := decide_eq_true c3
              have c6 : decide (s0 + 1 ≤ hi') = true := decide_eq_true c4
              have c7 : decide ((lo : Int) < (s0 : Int) + 1) = true := decide_eq_true c1
              generalize (Ls.dropK l v lo hi' q).length = g0 at *
              go_wp2
              go_roundw
              case rel => exact ⟨q + 1, by omega, rfl, by go_num, by rw [HS.out]; go_num, by rw [HD.out], HK⟩
              case measure => simp [intOf]; omega
            · have hgo : Ls.goneB l v lo hi' q = false := by simpa using hgo
              obtain ⟨x1, x2⟩ := drop_stays_at hlt hgo
              have HD := Lib.hid (show (Ls.dropK l v lo hi' (q + 1)).length = (Ls.dropK l v lo hi' q).length + 1 by rw [Ls.dropK_stays hgo, List.length_append]; rfl)
              rw [HDM.out] at x1 x2
              obtain ⟨b4, o4, rfl, hb4, hc4⟩ := HF4_.out.get (by omega)
              have y4 := (HK.out.cell (p := ⟨b4, o4 + (Ls.dropK l v lo hi' q).length, none⟩) hb4).trans (hc4 _ x1)
              rw [x2] at y4
              clear hc4 x2
              by_cases he : l.getD q [] = v
              · rw [gone_is he] at hgo
                have HS := Lib.hid (seen_yes hlt he)
                rw [he] at y1 y4
                have hne : (v != v) = false := by simp
                have hne2 : (v == v) = true := by simp
                clear he
                generalize Ls.seen l v q = s0 at *
                generalize (Ls.dropK l v lo hi' q).length = g0 at *
                have k2 : (0 : Int) ≤ (g0 : Int) := by omega
                have k3 : (g0 : Int) < (m.length : Int) := by omega
                have k4 : decide (m.length ≤ g0) = false := by rw [decide_eq_false_iff_not]; omega
                have k5 : decide ((m.length : Int) ≤ (g0 : Int)) = false := by rw [decide_eq_false_iff_not]; omega
                have kT2 : ((g0 : Int)).toNat = g0 := by omega
                by_cases g1 : lo ≤ s0
                · have g2 : ¬ s0 < hi' := by
                    intro h
                    rw [decide_eq_true g1, decide_eq_true h] at hgo
                    cases hgo
                  have c1 : (lo : Int) < (s0 : Int) + 1 := by omega
                  have c2 : ¬ (s0 : Int) + 1 ≤ (hi' : Int) := by omega
                  have c3 : lo < s0 + 1 := by omega
                  have c4 : ¬ s0 + 1 ≤ hi' := by omega
                  have c4b : hi' < s0 + 1 := by omega
                  have c5 : decide (lo < s0 + 1) = true := decide_eq_true c3
                  have c6 : decide (s0 + 1 ≤ hi') = false := decide_eq_false c4
                  have c7 : decide ((lo : Int) < (s0 : Int) + 1) = true := decide_eq_true c1
                  clear hgo
                  go_wp2
                  go_quiet (fail)
                  go_wp2
                  go_roundw
                  case rel => exact ⟨q + 1, by omega, rfl, by go_num, by rw [HS.out]; go_num, by rw [HD.out]; go_num, Lib.hid (below_drewN HK.out _)⟩
                  case measure => simp [intOf]; omega
                · have c1 : ¬ (lo : Int) < (s0 : Int) + 1 := by omega
                  have c3 : ¬ lo < s0 + 1 := by omega
                  have c5 : decide (lo < s0 + 1) = false := decide_eq_false c3
                  have c7 : decide ((lo : Int) < (s0 : Int) + 1) = false := decide_eq_false c1
                  clear hgo
                  go_wp2
                  go_quiet (fail)
                  go_wp2
                  go_roundw
                  case rel => exact ⟨q + 1, by omega, rfl, by go_num, by rw [HS.out]; go_num, by rw [HD.out]; go_num, Lib.hid (below_drewN HK.out _)⟩
                  case measure => simp [intOf]; omega
              · have HS := Lib.hid (seen_no hlt he)
                obtain ⟨x, hx⟩ : ∃ x, l.getD q [] = x := ⟨_, rfl⟩
                rw [hx] at y1 y4 he
                have hne : (x != v) = true := by simpa using he
                have hne2 : (x == v) = false := by simpa using he
                have hnx : (x != x) = false := by simp
                have hnx2 : (x == x) = true := by simp
                clear hx he hgo
                generalize Ls.seen l v q = s0 at *
                generalize (Ls.dropK l v lo hi' q).length = g0 at *
                have k2 : (0 : Int) ≤ (g0 : Int) := by omega
                have k3 : (g0 : Int) < (m.length : Int) := by omega
                have k4 : decide (m.length ≤ g0) = false := by rw [decide_eq_false_iff_not]; omega
                have k5 : decide ((m.length : Int) ≤ (g0 : Int)) = false := by rw [decide_eq_false_iff_not]; omega
                have kT2 : ((g0 : Int)).toNat = g0 := by omega
                go_wp2
                go_quiet (fail)
                go_wp2
                go_roundw
                case rel => exact ⟨q + 1, by omega, rfl, by go_num, by rw [HS.out], by rw [HD.out]; go_num, Lib.hid (below_drewN HK.out _)⟩
                case measure => simp [intOf]; omega
          · obtain rfl : q = l.length := by omega
            rw [HDM.out]
            have hbw := HB4.out.trans (HK.out.mono HB4.out.size)
            have z9 : ((m.length : Int) == (m.length : Int)) = true := by simp
            generalize Ls.seen l v l.length = s0 at *
            go_wp2_with fail
            refine (HAW.out wr hbw).mono ?_
            rintro e w6 ⟨rfl, hb⟩
            have HB6 := Lib.hid hb
            clear hb
            go_wp2_with fail
            go_ret
            exact ⟨rfl, HB6.out⟩
end Go.Proofs.Ytjfjlbgbdjcecaa
