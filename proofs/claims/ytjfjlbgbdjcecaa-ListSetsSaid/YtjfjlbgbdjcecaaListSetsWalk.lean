/- The walk of ListSets: what is set at a place is found there, from either end; the others stay. -/
import Derived.Test.YtjfjlbgbdjcecaaLsRef
import Derived.Test.YtjfjlbgbdjcecaaLsLetters
import Derived.BigQuiet
namespace Go.Proofs.Ytjfjlbgbdjcecaa
open Go.RowKit Go.Shelf
set_option linter.unusedVariables false
set_option linter.unusedSimpArgs false

theorem set_getD {l : List Ls.Bs} {J q : Nat} {v : Ls.Bs} (hJ : J < l.length) (hq : q < l.length) : (l.set J v).getD q [] = if q = J then v else l.getD q [] := by
  rw [List.getD, List.getElem?_set]
  by_cases h : q = J
  · subst h; rw [if_pos rfl, if_pos rfl, if_pos hJ]; rfl
  · rw [if_neg (fun e => h e.symm), if_neg h]; rfl
theorem at_set {l : List Ls.Bs} {J : Nat} {v : Ls.Bs} (hJ : J < l.length) : Ls.atS (l.set J v) (J : Int) = v ∧ Ls.isAt l.length (J : Int) = true := by
  have hx : Ls.ix l.length (J : Int) = (J : Int) := by unfold Ls.ix; rw [if_neg (by omega)]
  have hi : Ls.isAt l.length (J : Int) = true := by unfold Ls.isAt; rw [hx, decide_eq_true (by omega), decide_eq_true (by omega)]; rfl
  refine ⟨?_, hi⟩
  unfold Ls.atS
  rw [List.length_set, hi, if_pos rfl, hx, Int.toNat_natCast, set_getD hJ hJ, if_pos rfl]
theorem at_set_neg {l : List Ls.Bs} {J : Nat} {v : Ls.Bs} (hJ : J < l.length) : Ls.atS (l.set J v) ((J : Int) - (l.length : Int)) = v ∧ Ls.isAt l.length ((J : Int) - (l.length : Int)) = true := by
  have hx : Ls.ix l.length ((J : Int) - (l.length : Int)) = (J : Int) := by unfold Ls.ix; rw [if_pos (by omega)]; omega
  have hi : Ls.isAt l.length ((J : Int) - (l.length : Int)) = true := by unfold Ls.isAt; rw [hx, decide_eq_true (by omega), decide_eq_true (by omega)]; rfl
  refine ⟨?_, hi⟩
  unfold Ls.atS
  rw [List.length_set, hi, if_pos rfl, hx, Int.toNat_natCast, set_getD hJ hJ, if_pos rfl]

set_option maxRecDepth 100000 in
set_option maxHeartbeats 16000000 in
theorem listSets_walk (p : Option Addr) (cp : Nat) (ns : List UInt8) (k : Int) (v : Ls.Bs) (w : World) (hP : Bytes w p ns) (hl : ns.length ≤ 9223372036854775807) (hk : -128 ≤ k) (hk2 : k ≤ 127) (hvl : v.length ≤ 9223372036854775807) :
    Calls Try.prog 6 #[.slice p ns.length cp, .int .i8 k, .string ⟨v.toArray⟩] w fun e W => e = .returned (.bool true) ∧ Below w.heap.size w W := by
  have hawk : ∀ W, Below w.heap.size w W → Calls Try.prog 9 #[] W fun e W' => e = .returned (.bool true) ∧ Below w.heap.size w W' := fun W h => (awake_any W).mono fun e W' ⟨he, hb⟩ => ⟨he, h.trans (hb.mono h.size)⟩
  have HAW := Lib.hid hawk
  have HP := Lib.hid hP
  have hlI : (ns.length : Int) ≤ 9223372036854775807 := by omega
  clear hawk hP
  go_enter Try.func6, Try.ntmps6
  by_cases hok : ns.length ≤ 60 ∧ v.length ≤ 60
  rotate_left
  · by_cases h1 : ns.length ≤ 60
    · have d1 : ¬ (60 : Int) < (ns.length : Int) := by omega
      have d2 : (60 : Int) < (v.length : Int) := by
        by_cases h2 : v.length ≤ 60
        · exact (hok ⟨h1, h2⟩).elim
        · omega
      clear hok h1
      go_wp2_with fail
      refine (HAW.out w (Below.refl _ _)).mono ?_
      rintro e w2 ⟨rfl, hb⟩
      have HB2 := Lib.hid hb
      clear hb
      go_wp2_with fail
      go_ret
      exact ⟨rfl, HB2.out⟩
    · have d1 : (60 : Int) < (ns.length : Int) := by omega
      clear hok h1
      go_wp2_with fail
      refine (HAW.out w (Below.refl _ _)).mono ?_
      rintro e w2 ⟨rfl, hb⟩
      have HB2 := Lib.hid hb
      clear hb
      go_wp2_with fail
      go_ret
      exact ⟨rfl, HB2.out⟩
  obtain ⟨hn6, hv6⟩ := hok
  have d1 : ¬ (60 : Int) < (ns.length : Int) := by omega
  have d2 : ¬ (60 : Int) < (v.length : Int) := by omega
  have HLT := Lib.hid (letters_any p cp ns w HP.out (by omega))
  go_wp2_with fail
  refine HLT.out.mono ?_
  rintro e w2 ⟨u, rfl, hr⟩
  have hll := Ls.lett_len ns
  have hlo := Ls.lett_ok ns
  obtain ⟨l, hlet⟩ : ∃ l, Ls.lett ns = l := ⟨_, rfl⟩
  rw [hlet] at hr hll hlo
  obtain ⟨a, cap, rfl, hw, hnd⟩ := hr.open_ (fun s hs => by have := hlo s hs; omega)
  have hn60 : l.length ≤ 60 := by omega
  have HB2 := Lib.hid hr.2
  have HF1_ := Lib.hid hw
  have HO := Lib.hid (show ∀ s ∈ l, s.length ≤ 1000000 from fun s hs => by have := hlo s hs; omega)
  have hset := set_any a cap l k v w2 hw (by omega) (by omega) (by omega) HO.out (by omega)
  have hat := fun W (h : Below w2.heap.size w2 W) => at_any a cap l k W (hw.later h) (by omega) (by omega) HO.out
  clear hr hll hlo hlet hnd HLT HP d1 d2 hlI hn6 hl hw
  have hlnI : (l.length : Int) ≤ 60 := by omega
  have e0 : IntKind.i64.wrap (-(l.length : Int)) = -(l.length : Int) := IntWalk.i64_in _ (by omega)
  have ek : IntKind.i64.wrap k = k := IntWalk.i64_in _ (by omega)
  by_cases h : 0 ≤ Ls.ix l.length k ∧ Ls.ix l.length k < l.length
  rotate_left
  · have hA : Ls.isAt l.length k = false := by
      unfold Ls.isAt
      by_cases h0 : 0 ≤ Ls.ix l.length k
      · rw [decide_eq_true h0, decide_eq_false (fun h1 => h ⟨h0, h1⟩)]; rfl
      · rw [decide_eq_false h0]; rfl
    rw [hA, show Ls.setS l k v = [] by unfold Ls.setS; rw [hA]; rfl] at hset
    have hat2 := hat
    rw [hA, show Ls.atS l k = [] by unfold Ls.atS; rw [hA]; rfl] at hat2
    have HSET := Lib.hid hset
    have HAT := Lib.hid hat2
    have hcase : k < -(l.length : Int) ∨ (l.length : Int) ≤ k := by unfold Ls.ix at h; split at h <;> omega
    clear hset hat hat2 hA h
    rcases hcase with h1 | h1
    · have h2 : ¬ (l.length : Int) ≤ k := by omega
      go_wp2_with fail
      refine HSET.out.mono ?_
      rintro e w3 ⟨u3, rfl, hr⟩
      obtain ⟨a3, c3, rfl, -, -⟩ := hr.open_ (by simp)
      have HB3 := Lib.hid (HB2.out.trans (hr.2.mono HB2.out.size))
      have HC3 := Lib.hid hr.2
      clear hr
      simp only [List.length_nil]
      go_wp2_with fail
      refine (HAT.out w3 HC3.out).mono ?_
      rintro e w4 ⟨rfl, hb⟩
      have HB4 := Lib.hid (HB3.out.trans (hb.mono HB3.out.size))
      clear hb
      go_wp2_with fail
      refine (HAW.out w4 HB4.out).mono ?_
      rintro e w5 ⟨rfl, hb⟩
      have HB5 := Lib.hid hb
      clear hb
      go_wp2_with fail
      go_ret
      exact ⟨rfl, HB5.out⟩
    · have h2 : ¬ k < -(l.length : Int) := by omega
      go_wp2_with fail
      refine HSET.out.mono ?_
      rintro e w3 ⟨u3, rfl, hr⟩
      obtain ⟨a3, c3, rfl, -, -⟩ := hr.open_ (by simp)
      have HB3 := Lib.hid (HB2.out.trans (hr.2.mono HB2.out.size))
      have HC3 := Lib.hid hr.2
      clear hr
      simp only [List.length_nil]
      go_wp2_with fail
      refine (HAT.out w3 HC3.out).mono ?_
      rintro e w4 ⟨rfl, hb⟩
      have HB4 := Lib.hid (HB3.out.trans (hb.mono HB3.out.size))
      clear hb
      go_wp2_with fail
      refine (HAW.out w4 HB4.out).mono ?_
      rintro e w5 ⟨rfl, hb⟩
      have HB5 := Lib.hid hb
      clear hb
      go_wp2_with fail
      go_ret
      exact ⟨rfl, HB5.out⟩
  obtain ⟨J, hJ⟩ : ∃ J : Nat, Ls.ix l.length k = (J : Int) := ⟨(Ls.ix l.length k).toNat, by omega⟩
  have hJn : J < l.length := by omega
  have hA : Ls.isAt l.length k = true := by unfold Ls.isAt; rw [decide_eq_true h.1, decide_eq_true h.2]; rfl
  obtain ⟨r, hrr⟩ : ∃ r, l.set J v = r := ⟨_, rfl⟩
  have hrl : r.length = l.length := by rw [← hrr, List.length_set]
  rw [hA, show Ls.setS l k v = r by unfold Ls.setS; rw [hA, if_pos rfl, hJ, Int.toNat_natCast, hrr]] at hset
  have hro : ∀ s ∈ r, s.length ≤ 1000000 := by
    rw [← hrr]
    intro s hs
    rcases List.mem_or_eq_of_mem_set hs with h' | h'
    · exact HO.out s h'
    · subst h'; omega
  have g1 := at_set (v := v) hJn
  have g2 := at_set_neg (v := v) hJn
  rw [hrr] at g1 g2
  have hgd : ∀ q, q < l.length → r.getD q [] = if q = J then v else l.getD q [] := fun q hq => by rw [← hrr]; exact set_getD hJn hq
  have HSET := Lib.hid hset
  have HRL := Lib.hid hrl
  have HRO := Lib.hid hro
  have HG1 := Lib.hid g1
  have HG2 := Lib.hid g2
  have HGD := Lib.hid hgd
  have f1 : (J : Int) < (l.length : Int) := by omega
  have f2 : ¬ k < -(l.length : Int) := by unfold Ls.ix at hJ; split at hJ <;> omega
  have f3 : ¬ (l.length : Int) ≤ k := by unfold Ls.ix at hJ; split at hJ <;> omega
  have f4 : -(l.length : Int) ≤ k := by omega
  have f5 : k < (l.length : Int) := by omega
  have e3 : IntKind.i64.wrap ((J : Int) - (l.length : Int)) = (J : Int) - (l.length : Int) := IntWalk.i64_in _ (by omega)
  have z1 : ((l.length : Int) != (l.length : Int)) = false := by simp
  have hcase : (k < 0 ∧ IntKind.i64.wrap (k + (l.length : Int)) = (J : Int)) ∨ k = (J : Int) := by
    unfold Ls.ix at hJ
    split at hJ
    · exact .inl ⟨by assumption, by rw [IntWalk.i64_in _ (by omega)]; exact hJ⟩
    · exact .inr hJ
  clear hset hat hA h hrl hrr hro g1 g2 hgd hJ
  rcases hcase with ⟨h1, e1⟩ | h1
  · skip
    go_wp2_with fail
    refine HSET.out.mono ?_
    rintro e w3 ⟨u3, rfl, hr⟩
    obtain ⟨a3, c3, hu3, hw3, -⟩ := hr.open_ (fun s hs => by have := HRO.out s hs; omega)
    rw [HRL.out] at hu3
    subst hu3
    have HB3 := Lib.hid (HB2.out.trans (hr.2.mono HB2.out.size))
    replace HF1_ := Lib.hid (HF1_.out.later hr.2)
    have HF3_ := Lib.hid hw3
    clear hr hw3
    go_wp2_with fail
    go_loopw [6, 13] (fun rr i wr => ∃ q : Nat, q ≤ l.length ∧ rr = .bool false ∧ i = .int .i64 q ∧ Hid (Below w3.heap.size w3 wr)) (fun _ i _ => l.length - (intOf i).toNat)
    case atStart => exact ⟨0, Nat.zero_le _, rfl, rfl, Lib.hid (Below.refl _ _)⟩
    case round =>
      obtain ⟨q, hq, rfl, rfl, HK⟩ := hrel
      by_cases hlt : q < l.length
      · obtain ⟨b1, o1, rfl, hb1, hc1⟩ := HF1_.out.get (by omega)
        obtain ⟨b3, o3, rfl, hb3, hc3⟩ := HF3_.out.get (by rw [HRL.out]; omega)
        have y1 := (HK.out.cell (p := ⟨b1, o1 + q, none⟩) hb1).trans (hc1 q hlt)
        have y3 := (HK.out.cell (p := ⟨b3, o3 + q, none⟩) hb3).trans (hc3 q (by rw [HRL.out]; exact hlt))
        rw [HGD.out q hlt] at y3
        have k0 : (0 : Int) ≤ (q : Int) := by omega
        have k1 : (q : Int) < (l.length : Int) := by omega
        have kT : ((q : Int)).toNat = q := by omega
        clear hc1 hc3
        generalize l.getD q [] = x at *
        by_cases hqj : q = J
        · subst hqj
          rw [if_pos rfl] at y3
          have t1 : ((q : Int) == (q : Int)) = true := by simp
          have t2 : ((q : Int) != (q : Int)) = false := by simp
          have t3 : (q == q) = true := by simp
          have t4 : (q != q) = false := by simp
          have t5 : (v != v) = false := by simp
          have t6 : (v == v) = true := by simp
          go_wp2
          go_quiet (fail)
          go_wp2
          go_roundw
          case rel => exact ⟨q + 1, by omega, rfl, by go_num, Lib.hid (below_drewN HK.out _)⟩
          case measure => simp [intOf]; omega
        · rw [if_neg hqj] at y3
          have t1 : ((q : Int) == (J : Int)) = false := by rw [beq_eq_false_iff_ne]; omega
          have t2 : ((q : Int) != (J : Int)) = true := by rw [bne_iff_ne]; omega
          have t3 : (q == J) = false := by simpa using hqj
          have t4 : (q != J) = true := by simpa using hqj
          have t5 : (x != x) = false := by simp
          have t6 : (x == x) = true := by simp
          clear hqj
          go_wp2
          go_quiet (fail)
          go_wp2
          go_roundw
          case rel => exact ⟨q + 1, by omega, rfl, by go_num, Lib.hid (below_drewN HK.out _)⟩
          case measure => simp [intOf]; omega
      · obtain rfl : q = l.length := by omega
        have ha1 := at_any a3 c3 r (J : Int) wr (HF3_.out.later HK.out) (by omega) (by omega) HRO.out
        rw [HRL.out, HG1.out.1, HG1.out.2] at ha1
        have ha2 := fun W (h : Below wr.heap.size wr W) => at_any a3 c3 r ((J : Int) - (l.length : Int)) W ((HF3_.out.later HK.out).later h) (by omega) (by omega) HRO.out
        rw [HRL.out, HG2.out.1, HG2.out.2] at ha2
        have HA1 := Lib.hid ha1
        have HA2 := Lib.hid ha2
        have HBR := Lib.hid (HB3.out.trans (HK.out.mono HB3.out.size))
        have t5 : (v != v) = false := by simp
        have t6 : (v == v) = true := by simp
        clear ha1 ha2
        go_wp2_with fail
        refine HA1.out.mono ?_
        rintro e w4 ⟨rfl, hb⟩
        have HB4 := Lib.hid (HBR.out.trans (hb.mono HBR.out.size))
        have HC4 := Lib.hid hb
        clear hb
        go_wp2_with fail
        refine (HA2.out w4 HC4.out).mono ?_
        rintro e w5 ⟨rfl, hb⟩
        have HB5 := Lib.hid (HB4.out.trans (hb.mono HB4.out.size))
        clear hb
        go_wp2_with fail
        refine (HAW.out w5 HB5.out).mono ?_
        rintro e w6 ⟨rfl, hb⟩
        have HB6 := Lib.hid hb
        clear hb
        go_wp2_with fail
        go_ret
        exact ⟨rfl, HB6.out⟩
  · have h2 : ¬ k < 0 := by omega
    subst h1
    go_wp2_with fail
    refine HSET.out.mono ?_
    rintro e w3 ⟨u3, rfl, hr⟩
    obtain ⟨a3, c3, hu3, hw3, -⟩ := hr.open_ (fun s hs => by have := HRO.out s hs; omega)
    rw [HRL.out] at hu3
    subst hu3
    have HB3 := Lib.hid (HB2.out.trans (hr.2.mono HB2.out.size))
    replace HF1_ := Lib.hid (HF1_.out.later hr.2)
    have HF3_ := Lib.hid hw3
    clear hr hw3
    go_wp2_with fail
    go_loopw [6, 13] (fun rr i wr => ∃ q : Nat, q ≤ l.length ∧ rr = .bool false ∧ i = .int .i64 q ∧ Hid (Below w3.heap.size w3 wr)) (fun _ i _ => l.length - (intOf i).toNat)
    case atStart => exact ⟨0, Nat.zero_le _, rfl, rfl, Lib.hid (Below.refl _ _)⟩
    case round =>
      obtain ⟨q, hq, rfl, rfl, HK⟩ := hrel
      by_cases hlt : q < l.length
      · obtain ⟨b1, o1, rfl, hb1, hc1⟩ := HF1_.out.get (by omega)
        obtain ⟨b3, o3, rfl, hb3, hc3⟩ := HF3_.out.get (by rw [HRL.out]; omega)
        have y1 := (HK.out.cell (p := ⟨b1, o1 + q, none⟩) hb1).trans (hc1 q hlt)
        have y3 := (HK.out.cell (p := ⟨b3, o3 + q, none⟩) hb3).trans (hc3 q (by rw [HRL.out]; exact hlt))
        rw [HGD.out q hlt] at y3
        have k0 : (0 : Int) ≤ (q : Int) := by omega
        have k1 : (q : Int) < (l.length : Int) := by omega
        have kT : ((q : Int)).toNat = q := by omega
        clear hc1 hc3
        generalize l.getD q [] = x at *
        by_cases hqj : q = J
        · subst hqj
          rw [if_pos rfl] at y3
          have t1 : ((q : Int) == (q : Int)) = true := by simp
          have t2 : ((q : Int) != (q : Int)) = false := by simp
          have t3 : (q == q) = true := by simp
          have t4 : (q != q) = false := by simp
          have t5 : (v != v) = false := by simp
          have t6 : (v == v) = true := by simp
          go_wp2
          go_quiet (fail)
          go_wp2
          go_roundw
          case rel => exact ⟨q + 1, by omega, rfl, by go_num, Lib.hid (below_drewN HK.out _)⟩
          case measure => simp [intOf]; omega
        · rw [if_neg hqj] at y3
          have t1 : ((q : Int) == (J : Int)) = false := by rw [beq_eq_false_iff_ne]; omega
          have t2 : ((q : Int) != (J : Int)) = true := by rw [bne_iff_ne]; omega
          have t3 : (q == J) = false := by simpa using hqj
          have t4 : (q != J) = true := by simpa using hqj
          have t5 : (x != x) = false := by simp
          have t6 : (x == x) = true := by simp
          clear hqj
          go_wp2
          go_quiet (fail)
          go_wp2
          go_roundw
          case rel => exact ⟨q + 1, by omega, rfl, by go_num, Lib.hid (below_drewN HK.out _)⟩
          case measure => simp [intOf]; omega
      · obtain rfl : q = l.length := by omega
        have ha1 := at_any a3 c3 r (J : Int) wr (HF3_.out.later HK.out) (by omega) (by omega) HRO.out
        rw [HRL.out, HG1.out.1, HG1.out.2] at ha1
        have ha2 := fun W (h : Below wr.heap.size wr W) => at_any a3 c3 r ((J : Int) - (l.length : Int)) W ((HF3_.out.later HK.out).later h) (by omega) (by omega) HRO.out
        rw [HRL.out, HG2.out.1, HG2.out.2] at ha2
        have HA1 := Lib.hid ha1
        have HA2 := Lib.hid ha2
        have HBR := Lib.hid (HB3.out.trans (HK.out.mono HB3.out.size))
        have t5 : (v != v) = false := by simp
        have t6 : (v == v) = true := by simp
        clear ha1 ha2
        go_wp2_with fail
        refine HA1.out.mono ?_
        rintro e w4 ⟨rfl, hb⟩
        have HB4 := Lib.hid (HBR.out.trans (hb.mono HBR.out.size))
        have HC4 := Lib.hid hb
        clear hb
        go_wp2_with fail
        refine (HA2.out w4 HC4.out).mono ?_
        rintro e w5 ⟨rfl, hb⟩
        have HB5 := Lib.hid (HB4.out.trans (hb.mono HB4.out.size))
        clear hb
        go_wp2_with fail
        refine (HAW.out w5 HB5.out).mono ?_
        rintro e w6 ⟨rfl, hb⟩
        have HB6 := Lib.hid hb
        clear hb
        go_wp2_with fail
        go_ret
        exact ⟨rfl, HB6.out⟩
end Go.Proofs.Ytjfjlbgbdjcecaa
