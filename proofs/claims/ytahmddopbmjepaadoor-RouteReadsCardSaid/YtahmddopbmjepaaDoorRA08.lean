/- The slot of keys, where they have one: the contract of the reference's One. -/
import Derived.Test.YtahmddopbmjepaaDoorRA05
import Derived.Test.YtahmddopbmjepaaDoorRA07
namespace Go.Proofs.YtahmddopbmjepaaDoor
open Go.RowKit

namespace Rt
abbrev Bs := List UInt8
/-- the slot of all keys; below 0: they have none together. -/
def one (ks : List Bs) : Int := match ks with
  | [] => -1
  | k :: r => if r.all (fun x => decide (slotOf x = slotOf k)) then (slotOf k : Int) else -1

theorem one_all {ks : List Bs} (h0 : 0 < ks.length) (h : ∀ j, j < ks.length → slotOf (ks.getD j []) = slotOf (ks.getD 0 [])) : one ks = (slotOf (ks.getD 0 []) : Int) := by
  cases ks with
  | nil => simp at h0
  | cons k r =>
    show (if r.all (fun x => decide (slotOf x = slotOf k)) = true then (slotOf k : Int) else -1) = _
    rw [if_pos]
    · rfl
    · rw [List.all_eq_true]
      intro x hx
      obtain ⟨j, hj, rfl⟩ := List.getElem_of_mem hx
      have := h (j + 1) (by simp; omega)
      simpa [List.getD, hj] using this

theorem one_not {ks : List Bs} {j : Nat} (hj : j < ks.length) (h : slotOf (ks.getD j []) ≠ slotOf (ks.getD 0 [])) : one ks = -1 := by
  cases ks with
  | nil => simp at hj
  | cons k r =>
    show (if r.all (fun x => decide (slotOf x = slotOf k)) = true then (slotOf k : Int) else -1) = _
    rw [if_neg]
    rw [List.all_eq_true]
    intro hall
    cases j with
    | zero => exact h rfl
    | succ j =>
      have hj' : j < r.length := by simpa using hj
      have := hall r[j] (List.getElem_mem hj')
      simp [List.getD, hj'] at h this
      exact h this
end Rt

theorem refSlot_key (k : List UInt8) (w : World) (hk : k.length ≤ 9223372036854775807) :
    Calls Tryd.prog 18 #[.string ⟨k.toArray⟩] w fun e w' => e = .returned (.int .i64 (slotOf k)) ∧ w = w' := by
  have h : (⟨k.toArray⟩ : ByteArray).size ≤ maxLen := by
    have : (⟨k.toArray⟩ : ByteArray).size = k.length := by simp [ByteArray.size]
    rw [this]
    unfold maxLen
    omega
  have := refSlot_walk ⟨k.toArray⟩ w h
  simpa using this

set_option maxRecDepth 100000 in
set_option maxHeartbeats 2000000 in
theorem rt_refOne (a : Option Addr) (cap : Nat) (ks : List (List UInt8)) (w : World) (hW : Wds w a cap ks) (hl : ks.length ≤ 1000000) :
    Calls Tryd.prog 30 #[.slice a ks.length cap] w fun e w' => e = .returned (.int .i64 (Rt.one ks)) ∧ w = w' := by
  by_cases h0 : ks.length = 0
  · obtain rfl : ks = [] := List.eq_nil_of_length_eq_zero h0
    clear h0 hl hW
    go_enter Tryd.func30, Tryd.ntmps30
    go_wp2
    go_ret
    exact ⟨rfl, rfl⟩
  · have hpos : 0 < ks.length := by omega
    obtain ⟨b, off, rfl, hb, hc⟩ := hW.get hpos
    have HW := Lib.hid hW
    have HC := Lib.hid hc
    have c0 := hc 0 hpos
    rw [Nat.add_zero] at c0
    have hk0 := (hW.len (k := 0))
    have hcap := hW.1
    have hpos' : (0 : Int) < (ks.length : Int) := by omega
    obtain ⟨z, hz⟩ : ∃ z, Rt.one ks = z := ⟨_, rfl⟩
    rw [hz]
    have HN : Hid (∀ j, j < ks.length → slotOf (ks.getD j []) ≠ slotOf (ks.getD 0 []) → z = -1) := Lib.hid fun j hj h => by rw [← hz]; exact Rt.one_not hj h
    have HA : Hid ((∀ j, j < ks.length → slotOf (ks.getD j []) = slotOf (ks.getD 0 [])) → z = (slotOf (ks.getD 0 []) : Int)) := Lib.hid fun h => by rw [← hz]; exact Rt.one_all hpos h
    have HS0 := Lib.hid (fun W => refSlot_key (ks.getD 0 []) W hk0)
    clear hW hc hz hk0
    have hzl : ¬ ks = [] := fun h => by rw [h] at hpos; simp at hpos
    obtain ⟨k0, hk⟩ : ∃ k0, ks.getD 0 [] = k0 := ⟨_, rfl⟩
    rw [hk] at HN HA HS0 c0
    obtain ⟨s0, hs⟩ : ∃ s0, slotOf k0 = s0 := ⟨_, rfl⟩
    rw [hs] at HN HA HS0
    have H1 : Hid (∀ j, j < 1 → slotOf (ks.getD j []) = s0) := Lib.hid fun j hj => by
      obtain rfl : j = 0 := by omega
      rw [hk]; exact hs
    clear hs hk
    go_enter Tryd.func30, Tryd.ntmps30
    go_wp2_with fail
    refine (HS0.out _).mono ?_
    rintro e w1 ⟨rfl, rfl⟩
    go_wp2
    go_loop [2, 4] (fun r i => ∃ k : Nat, 1 ≤ k ∧ k ≤ ks.length ∧ r = .int .i64 0 ∧ i = .int .i64 k ∧ Hid (∀ j, j < k → slotOf (ks.getD j []) = s0)) (fun _ i => ks.length - (intOf i).toNat)
    case atStart => exact ⟨1, by omega, by omega, rfl, rfl, H1⟩
    case round =>
      obtain ⟨k, hk1, hk, rfl, rfl, HK⟩ := hrel
      by_cases hlt : k < ks.length
      · have ck := HC.out k hlt
        have hlk := HW.out.len (k := k)
        have k0' : (0 : Int) ≤ (k : Int) := by omega
        have k1 : (k : Int) < (ks.length : Int) := by omega
        have HNk := Lib.hid (HN.out k hlt)
        obtain ⟨y, hy⟩ : ∃ y, ks.getD k [] = y := ⟨_, rfl⟩
        rw [hy] at ck hlk HNk
        have HSK := Lib.hid (fun W => refSlot_key y W hlk)
        have HY := Lib.hid hy
        clear hy hlk
        by_cases he : slotOf y = s0
        · have HE := Lib.hid he
          rw [he] at HSK
          have hqq : ((s0 : Int) != (s0 : Int)) = false := by simp
          clear he
          go_wp2_with fail
          refine (HSK.out _).mono ?_
          rintro e w2 ⟨rfl, rfl⟩
          go_wp2
          go_round
          case rel =>
            refine ⟨k + 1, by omega, by omega, rfl, by go_num, Lib.hid fun j hj => ?_⟩
            rcases Nat.lt_or_ge j k with h | h
            · exact HK.out j h
            · obtain rfl : j = k := by omega
              rw [HY.out]
              exact HE.out
          case measure => simp [intOf]; omega
        · have hqq : ((slotOf y : Int) != (s0 : Int)) = true := by rw [bne_iff_ne]; omega
          obtain rfl : z = -1 := HNk.out he
          generalize slotOf y = sy at *
          clear he
          go_wp2_with fail
          refine (HSK.out _).mono ?_
          rintro e w2 ⟨rfl, rfl⟩
          go_wp2
          go_ret
          exact ⟨rfl, rfl⟩
      · obtain rfl : z = (s0 : Int) := HA.out (fun j hj => HK.out j (by omega))
        go_wp2
        go_ret
        exact ⟨rfl, rfl⟩
end Go.Proofs.YtahmddopbmjepaaDoor
