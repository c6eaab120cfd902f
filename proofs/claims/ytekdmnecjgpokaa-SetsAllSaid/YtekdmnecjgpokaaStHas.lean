/- The contracts of cmp.Less, slices.BinarySearch and sets.Has. -/
import Derived.Test.YtekdmnecjgpokaaStBase
import Derived.Sort.Walk0
import Derived.LoopTactic
namespace Go.Proofs.Ytekdmnecjgpokaa
open Go.RowKit Go.Shelf
set_option linter.unusedVariables false
set_option linter.unusedSimpArgs false

theorem nanS_any (l : List UInt8) (w : World) : Calls Try.prog 36 #[.string ⟨l.toArray⟩] w fun e w' => e = .returned (.bool false) ∧ w = w' := by
  go_enter Try.func36, Try.ntmps36
  go_wp2
  go_ret
  exact ⟨by simp, rfl⟩
theorem nanC_any (l : List UInt8) (w : World) : Calls Try.prog 44 #[.string ⟨l.toArray⟩] w fun e w' => e = .returned (.bool false) ∧ w = w' := by
  go_enter Try.func44, Try.ntmps44
  go_wp2
  go_ret
  exact ⟨by simp, rfl⟩
set_option maxHeartbeats 1000000 in
theorem less_any (x y : List UInt8) (b : Bool) (hb : Op.bytesLess x y = b) (w : World) : Calls Try.prog 35 #[.string ⟨x.toArray⟩, .string ⟨y.toArray⟩] w fun e w' => e = .returned (.bool b) ∧ w = w' := by
  have HX := Lib.hid (nanC_any x w)
  go_enter Try.func35, Try.ntmps35
  go_wp2_with (go_at_call 44; refine HX.out.mono ?_; rintro e w1 ⟨rfl, rfl⟩)
  go_ret
  exact ⟨rfl, rfl⟩

theorem St.has_end {ws : List St.Bs} {s : St.Bs} {k : Nat} (hu : Mk.upS ws) (hk : k ≤ ws.length) (h1 : ∀ j, j < k → ws.getD j [] < s) (h2 : ∀ j, k ≤ j → j < ws.length → ¬ ws.getD j [] < s) : Mk.hasB ws s = true ↔ k < ws.length ∧ ws.getD k [] = s := by
  rw [St.has_iff]
  constructor
  · intro h
    obtain ⟨i, hi, rfl⟩ := List.getElem_of_mem h
    have hki : k ≤ i := by
      rcases Nat.lt_or_ge i k with h' | h'
      · have := h1 i h'
        rw [getD_eq hi] at this
        exact absurd this (List.lt_irrefl _)
      · exact h'
    refine ⟨by omega, ?_⟩
    rcases Nat.eq_or_lt_of_le hki with e | h'
    · subst e; exact getD_eq hi
    · have h3 := h2 k (Nat.le_refl _) (by omega)
      rw [getD_eq (by omega)] at h3
      exact absurd (List.pairwise_iff_getElem.1 hu k i (by omega) hi h') h3
  · rintro ⟨h, rfl⟩
    rw [getD_eq h]
    exact List.getElem_mem h

/-- what the search tells. -/
def SOut (b : Bool) (w : World) (e : Ending) (w' : World) : Prop := ∃ k : Nat, k ≤ 1000000 ∧ e = .returned (.tuple #[.int .i64 (k : Int), .bool b]) ∧ w = w'

set_option maxRecDepth 100000 in
set_option maxHeartbeats 4000000 in
theorem search_any (a : Option Addr) (cap : Nat) (ws : List St.Bs) (s : St.Bs) (w : World) (hW : Wds w a cap ws) (hn : ws.length ≤ 1000000) (hu : Mk.upS ws) :
    Calls Try.prog 26 #[.slice a ws.length cap, .string ⟨s.toArray⟩] w (SOut (Mk.hasB ws s) w) := by
  have HW := Lib.hid hW
  have HU := Lib.hid (fun k => St.has_end (s := s) (k := k) hu)
  have HLt := Lib.hid (fun i j (hi : i < j) (hj : j < ws.length) => show ws.getD i [] < ws.getD j [] by
    rw [getD_eq (by omega), getD_eq hj]
    exact List.pairwise_iff_getElem.1 hu i j (by omega) hj hi)
  have hnI : (ws.length : Int) ≤ 1000000 := by omega
  clear hW hu
  go_enter Try.func26, Try.ntmps26
  go_wp2
  go_loop [7, 8] (fun i j => ∃ lo hi : Nat, i = .int .i64 lo ∧ j = .int .i64 hi ∧ lo ≤ hi ∧ hi ≤ ws.length ∧ Hid (∀ k, k < lo → ws.getD k [] < s) ∧ Hid (∀ k, hi ≤ k → k < ws.length → ¬ ws.getD k [] < s)) (fun i j => (intOf j).toNat - (intOf i).toNat)
  case atStart => exact ⟨0, ws.length, rfl, rfl, Nat.zero_le _, Nat.le_refl _, Lib.hid fun k h => by omega, Lib.hid fun k h1 h2 => by omega⟩
  case round =>
    obtain ⟨lo, hi, rfl, rfl, hlh, hin, HLo, HHi⟩ := hrel
    have k0 : (0 : Int) ≤ (lo : Int) := by omega
    have k1 : (hi : Int) ≤ (ws.length : Int) := by omega
    by_cases hlt : lo < hi
    · obtain ⟨b, off, rfl, hb, hc⟩ := HW.out.get (by omega)
      have cm := hc ((lo + hi) / 2) (by omega)
      have k2 : (lo : Int) < (hi : Int) := by omega
      have hmid : (((lo + hi) / 2 : Nat) : Int) = ((lo : Int) + (hi : Int)) / 2 := by omega
      have k3 : (lo : Int) ≤ ((lo : Int) + (hi : Int)) / 2 := by omega
      have k4 : ((lo : Int) + (hi : Int)) / 2 < (hi : Int) := by omega
      obtain ⟨m, hm⟩ : ∃ m, (lo + hi) / 2 = m := ⟨_, rfl⟩
      have cm2 : w.cell? ⟨b, off + (lo + hi) / 2, none⟩ = some (.string ⟨(ws.getD m []).toArray⟩) := by rw [← hm]; exact cm
      rw [hm] at hmid
      have HM : Hid (lo ≤ m ∧ m < hi ∧ (m : Int) = ((lo : Int) + (hi : Int)) / 2) := Lib.hid ⟨by omega, by omega, hmid⟩
      obtain ⟨y, hy⟩ : ∃ y, ws.getD m [] = y := ⟨_, rfl⟩
      rw [hy] at cm2
      have HY := Lib.hid hy
      clear hc hmid hm hy cm
      by_cases hys : y < s
      · have HLs := Lib.hid (fun w => less_any y s true (by rw [bytesLess_eq, decide_eq_true hys]) w)
        have HYS := Lib.hid hys
        clear hys
        go_wp2_with (go_at_call 35; refine (HLs.out _).mono ?_; rintro e w1 ⟨rfl, rfl⟩)
        go_round
        case rel =>
          obtain ⟨m1, m2, m3⟩ := HM.out
          refine ⟨m + 1, hi, by rw [← m3]; go_num, rfl, by omega, hin, Lib.hid fun k hk => ?_, HHi⟩
          rcases Nat.lt_or_ge k m with h | h
          · have h1 := HLt.out k m h (by omega)
            rw [HY.out] at h1
            exact Mk.lt_tr h1 HYS.out
          · obtain rfl : k = m := by omega
            rw [HY.out]; exact HYS.out
        case measure =>
          obtain ⟨m1, m2, m3⟩ := HM.out
          simp [intOf]; omega
      · have HLs := Lib.hid (fun w => less_any y s false (by rw [bytesLess_eq, decide_eq_false hys]) w)
        have HYS := Lib.hid hys
        clear hys
        go_wp2_with (go_at_call 35; refine (HLs.out _).mono ?_; rintro e w1 ⟨rfl, rfl⟩)
        go_round
        case rel =>
          obtain ⟨m1, m2, m3⟩ := HM.out
          refine ⟨lo, m, rfl, by rw [← m3], by omega, by omega, HLo, Lib.hid fun k hk1 hk2 h => ?_⟩
          rcases Nat.eq_or_lt_of_le hk1 with e | h'
          · subst e
            rw [HY.out] at h
            exact HYS.out h
          · have h1 := HLt.out m k h' hk2
            rw [HY.out] at h1
            exact HYS.out (Mk.lt_tr h1 h)
        case measure =>
          obtain ⟨m1, m2, m3⟩ := HM.out
          simp [intOf]; omega
    · obtain rfl : hi = lo := by omega
      have HE := Lib.hid (HU.out hi hin HLo.out HHi.out)
      by_cases hn2 : hi < ws.length
      · obtain ⟨b, off, rfl, hb, hc⟩ := HW.out.get (by omega)
        have cm := hc hi hn2
        have k2 : (hi : Int) < (ws.length : Int) := by omega
        obtain ⟨y, hy⟩ : ∃ y, ws.getD hi [] = y := ⟨_, rfl⟩
        rw [hy] at cm
        have HY := Lib.hid hy
        have HLen := Lib.hid hn2
        clear hc hy
        by_cases hys : y = s
        · have HB := Lib.hid (show Mk.hasB ws s = true from HE.out.2 ⟨HLen.out, HY.out.trans hys⟩)
          have e1 : (y == s) = true := by simp [hys]
          have HNa := Lib.hid (fun (l : List UInt8) w => nanS_any l w)
          clear hys
          go_wp2_with (go_at_call 36; refine (HNa.out _ _).mono ?_; rintro e w1 ⟨rfl, rfl⟩)
          go_ret2
          exact ⟨hi, by omega, by rw [HB.out]; rfl, rfl⟩
        · have HB := Lib.hid (show Mk.hasB ws s = false from Bool.eq_false_iff.2 fun h => hys (HY.out.symm.trans (HE.out.1 h).2))
          have e1 : (y == s) = false := by simp [hys]
          have HNa := Lib.hid (fun (l : List UInt8) w => nanS_any l w)
          clear hys
          go_wp2_with (go_at_call 36; refine (HNa.out _ _).mono ?_; rintro e w1 ⟨rfl, rfl⟩)
          go_ret2
          exact ⟨hi, by omega, by rw [HB.out]; rfl, rfl⟩
      · have HB := Lib.hid (show Mk.hasB ws s = false from Bool.eq_false_iff.2 fun h => hn2 (HE.out.1 h).1)
        obtain rfl : hi = ws.length := by omega
        go_wp2
        go_ret2
        exact ⟨_, hn, by rw [HB.out]; rfl, rfl⟩

set_option maxHeartbeats 1000000 in
/-- sets.Has. -/
theorem has_any (a : Option Addr) (cap : Nat) (ws : List St.Bs) (s : St.Bs) (w : World) (hW : Wds w a cap ws) (hn : ws.length ≤ 1000000) (hu : Mk.upS ws) :
    Calls Try.prog 12 #[.slice a ws.length cap, .string ⟨s.toArray⟩] w fun e w' => e = .returned (.bool (Mk.hasB ws s)) ∧ w = w' := by
  have HS := Lib.hid (search_any a cap ws s w hW hn hu)
  clear hW hu
  go_enter Try.func12, Try.ntmps12
  go_wp2_with (go_at_call 26; refine HS.out.mono ?_; rintro e w1 ⟨k, hk, rfl, rfl⟩)
  go_ret
  exact ⟨rfl, rfl⟩
end Go.Proofs.Ytekdmnecjgpokaa
