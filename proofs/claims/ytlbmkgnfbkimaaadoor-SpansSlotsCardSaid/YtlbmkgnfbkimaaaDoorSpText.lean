/- The contract of the reference's SpanText. -/
import Derived.Test.YtlbmkgnfbkimaaaDoorSpNorm
import Derived.Test.YtlbmkgnfbkimaaaDoorDig
namespace Go.Proofs.YtlbmkgnfbkimaaaDoor
open Go.RowKit

/-- a span as text. -/
def oneT (s : Sp.S) : List UInt8 := Dig.dec s.1 ++ (if s.1 < s.2 then 45 :: Dig.dec s.2 else [])

/-- so many spans as text. -/
def textTo (m : List Sp.S) : Nat → List UInt8
  | 0 => []
  | k + 1 => textTo m k ++ (if 0 < k then [44] else []) ++ oneT (m.getD k (0, 0))

def textS (m : List Sp.S) : List UInt8 := textTo m m.length

theorem dec_len {n : Int} (h0 : 0 ≤ n) (h1 : n < 16384) : (Dig.dec n).length ≤ 5 := by
  unfold Dig.dec
  rw [if_neg (by omega)]
  exact Dig.digs_len 4 _ (by omega)

theorem str_app (a b : List UInt8) : (⟨a.toArray⟩ : ByteArray) ++ ⟨b.toArray⟩ = ⟨(a ++ b).toArray⟩ := by
  apply ByteArray.ext
  simp

theorem str_app1 (a : List UInt8) (b : UInt8) : (⟨a.toArray⟩ : ByteArray) ++ ⟨#[b]⟩ = ⟨(a ++ [b]).toArray⟩ := str_app a [b]

set_option maxRecDepth 100000 in
set_option maxHeartbeats 2000000 in
theorem refText_any (a1 : Option Addr) (cap1 : Nat) (l : List Sp.S) (w : World) (hn : l.length ≤ 100000) (h1 : Spans w a1 cap1 l) :
    Calls Tryd.prog 21 #[.slice a1 l.length cap1] w fun e w' => e = .returned (.string ⟨(textS (Sp.mixS 0 l [])).toArray⟩) ∧ Below w.heap.size w w' := by
  have H := Lib.hid (refNorm_any a1 cap1 l w hn h1)
  have hml := mixS_len 0 l [] (by simpa using hn)
  have HV := Lib.hid (Sp.mixS_spec 0 l []).1.1
  clear h1
  go_enter Tryd.func21, Tryd.ntmps21
  go_wp2_with fail
  refine H.out.mono ?_
  rintro e w1 ⟨a, cap, rfl, hS, hb⟩
  have HS := Lib.hid hS
  have HB := Lib.hid hb
  have HK : Hid (textS (Sp.mixS 0 l []) = textTo (Sp.mixS 0 l []) (Sp.mixS 0 l []).length) := Lib.hid rfl
  clear hS hb H
  generalize hmm : Sp.mixS 0 l [] = m at *
  have HMM := Lib.hid hmm
  clear hmm
  go_wp2_with fail
  go_loopw [3, 5] (fun s i wr => ∃ (k : Nat) (t : List UInt8), k ≤ m.length ∧ i = .int .i64 k ∧ s = .string ⟨t.toArray⟩ ∧ t.length ≤ 20 * k ∧ Hid (t = textTo m k) ∧ Hid (Below w1.heap.size w1 wr)) (fun _ i _ => m.length - (intOf i).toNat)
  case atStart => exact ⟨0, [], Nat.zero_le _, rfl, rfl, by simp, Lib.hid rfl, Lib.hid (Below.refl _ _)⟩
  case round =>
    obtain ⟨k, t, hk, rfl, rfl, htl, HT, HW⟩ := hrel
    by_cases hlt : k < m.length
    · obtain ⟨b, off, hab, hbl, c1, c2⟩ := (HS.out.later HW.out).cells hlt
      have hvs : 0 ≤ (m.getD k (0, 0)).1 ∧ (m.getD k (0, 0)).1 ≤ (m.getD k (0, 0)).2 ∧ (m.getD k (0, 0)).2 < 16384 := by
        have e : m.getD k (0, 0) = m[k] := by simp [List.getD, hlt]
        rw [e]; exact HV.out _ (List.getElem_mem hlt)
      have hst : textTo m (k + 1) = textTo m k ++ (if 0 < k then [44] else []) ++ oneT (m.getD k (0, 0)) := rfl
      rw [← HT.out] at hst
      generalize m.getD k (0, 0) = s at c1 c2 hvs hst
      obtain ⟨x, y⟩ := s
      simp only at c1 c2 hvs
      obtain ⟨v1, v2, v3⟩ := hvs
      have HST := Lib.hid hst
      have lx := dec_len v1 (by omega)
      have ly := dec_len (n := y) (by omega) v3
      have hx1 : -9223372036854775808 ≤ x ∧ x ≤ 9223372036854775807 := by omega
      have hy1 : -9223372036854775808 ≤ y ∧ y ≤ 9223372036854775807 := by omega
      have HX := Lib.hid hx1
      have HY := Lib.hid hy1
      have HC1 := Lib.hid c1
      have HC2 := Lib.hid c2
      subst hab
      clear hst hx1 hy1
      by_cases hk0 : 0 < k
      · rw [if_pos hk0] at HST
        go_wp2_with fail
        refine (digits_any x _ HX.out.1 HX.out.2).mono ?_
        rintro e w2 ⟨rfl, hb2⟩
        have HB2 := Lib.hid (HW.out.trans (hb2.mono HW.out.size))
        have d1 := (hb2.cell (p := ⟨b, off + k * 2, none⟩) hbl).trans HC1.out
        have d2 := (hb2.cell (p := ⟨b, off + k * 2 + 1, none⟩) hbl).trans HC2.out
        have hbl2 : b < w2.heap.size := Nat.lt_of_lt_of_le hbl hb2.size
        clear hb2 c1 c2
        have kI : (k : Int) < (m.length : Int) := by omega
        by_cases hxy : x < y
        · have hxb : decide (x < y) = true := by simpa using hxy
          have hone : oneT (x, y) = Dig.dec x ++ (45 :: Dig.dec y) := by unfold oneT; rw [if_pos hxy]
          have HONE := Lib.hid hone
          clear hone
          go_upto_region 9 with (fail)
          go_quiet (fail)
          obtain ⟨wq, hwq⟩ : ∃ wq, w2.drewN nq = wq := ⟨_, rfl⟩
          have q2 : wq.cell? ⟨b, off + k * 2 + 1, none⟩ = some (.int .i64 y) := by rw [← hwq]; exact d2
          have HBq : Hid (Below w1.heap.size w1 wq) := Lib.hid (by rw [← hwq]; exact below_drewN HB2.out _)
          rw [hwq]
          clear hwq d1 d2 HB2
          go_wp2_with fail
          refine (digits_any y _ HY.out.1 HY.out.2).mono ?_
          rintro e w3 ⟨rfl, hb3⟩
          have HB3 := Lib.hid (HBq.out.trans (hb3.mono HBq.out.size))
          clear hb3 q2
          go_wp2
          go_roundw
          case rel =>
            refine ⟨k + 1, (t ++ [44]) ++ Dig.dec x ++ [45] ++ Dig.dec y, by omega, by go_num, ?_, ?_, Lib.hid ?_, HB3⟩
            · rw [str_app1, str_app, str_app1, str_app]
            · simp only [List.length_append, List.length_cons, List.length_nil]; omega
            · rw [HST.out, HONE.out]; simp
          case measure => simp [intOf]; omega
        · have hxb : decide (x < y) = false := by simpa using hxy
          have hone : oneT (x, y) = Dig.dec x := by unfold oneT; rw [if_neg hxy]; simp
          have HONE := Lib.hid hone
          clear hone
          go_upto_region 9 with (fail)
          go_quiet (fail)
          go_wp2
          go_roundw
          case rel =>
            refine ⟨k + 1, (t ++ [44]) ++ Dig.dec x, by omega, by go_num, ?_, ?_, Lib.hid ?_, Lib.hid (below_drewN HB2.out _)⟩
            · rw [str_app1, str_app]
            · simp only [List.length_append, List.length_cons, List.length_nil]; omega
            · rw [HST.out, HONE.out]
          case measure => simp [intOf]; omega
      · rw [if_neg hk0] at HST
        go_wp2_with fail
        refine (digits_any x _ HX.out.1 HX.out.2).mono ?_
        rintro e w2 ⟨rfl, hb2⟩
        have HB2 := Lib.hid (HW.out.trans (hb2.mono HW.out.size))
        have d1 := (hb2.cell (p := ⟨b, off + k * 2, none⟩) hbl).trans HC1.out
        have d2 := (hb2.cell (p := ⟨b, off + k * 2 + 1, none⟩) hbl).trans HC2.out
        have hbl2 : b < w2.heap.size := Nat.lt_of_lt_of_le hbl hb2.size
        clear hb2 c1 c2
        have kI : (k : Int) < (m.length : Int) := by omega
        by_cases hxy : x < y
        · have hxb : decide (x < y) = true := by simpa using hxy
          have hone : oneT (x, y) = Dig.dec x ++ (45 :: Dig.dec y) := by unfold oneT; rw [if_pos hxy]
          have HONE := Lib.hid hone
          clear hone
          go_upto_region 9 with (fail)
          go_quiet (fail)
          obtain ⟨wq, hwq⟩ : ∃ wq, w2.drewN nq = wq := ⟨_, rfl⟩
          have q2 : wq.cell? ⟨b, off + k * 2 + 1, none⟩ = some (.int .i64 y) := by rw [← hwq]; exact d2
          have HBq : Hid (Below w1.heap.size w1 wq) := Lib.hid (by rw [← hwq]; exact below_drewN HB2.out _)
          rw [hwq]
          clear hwq d1 d2 HB2
          go_wp2_with fail
          refine (digits_any y _ HY.out.1 HY.out.2).mono ?_
          rintro e w3 ⟨rfl, hb3⟩
          have HB3 := Lib.hid (HBq.out.trans (hb3.mono HBq.out.size))
          clear hb3 q2
          go_wp2
          go_roundw
          case rel =>
            refine ⟨k + 1, t ++ Dig.dec x ++ [45] ++ Dig.dec y, by omega, by go_num, ?_, ?_, Lib.hid ?_, HB3⟩
            · rw [str_app, str_app1, str_app]
            · simp only [List.length_append, List.length_cons, List.length_nil]; omega
            · rw [HST.out, HONE.out]; simp
          case measure => simp [intOf]; omega
        · have hxb : decide (x < y) = false := by simpa using hxy
          have hone : oneT (x, y) = Dig.dec x := by unfold oneT; rw [if_neg hxy]; simp
          have HONE := Lib.hid hone
          clear hone
          go_upto_region 9 with (fail)
          go_quiet (fail)
          go_wp2
          go_roundw
          case rel =>
            refine ⟨k + 1, t ++ Dig.dec x, by omega, by go_num, ?_, ?_, Lib.hid ?_, Lib.hid (below_drewN HB2.out _)⟩
            · rw [str_app]
            · simp only [List.length_append]; omega
            · rw [HST.out, HONE.out]; simp
          case measure => simp [intOf]; omega
    · have hall : t = textTo m m.length := by rw [HT.out]; congr 1; omega
      have HALL := Lib.hid hall
      clear hall
      go_wp2
      go_ret
      exact ⟨by rw [HMM.out, HK.out, ← HALL.out]; rfl, HB.out.trans (HW.out.mono HB.out.size)⟩
end Go.Proofs.YtlbmkgnfbkimaaaDoor
