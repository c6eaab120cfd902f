/- Texts and their bytes. The contract of caravanref1.Tag. The slot of a key; the contract of caravanref1.Slot. -/
import Derived.ProofKit
import Derived.Test.YtahmddopbmjepaaDoorProg
import Derived.Test.YtahmddopbmjepaaDoorRD01
import Derived.WalkKit
import Derived.WalkLawsBesides
import Derived.WalkSpells
import Derived.Lib.Hide
import Derived.Outline
import Derived.Below
import Derived.Deep.QuietTactic
import Derived.BigQuiet
import Derived.Lib.IndexBytes
import Derived.Test.YtahmddopbmjepaaDoorRD03
import Derived.Lib.SlBytesConst
import Derived.Lib.ConvBytes
import Derived.Laws.IdiomStrings
namespace Go.Proofs.YtahmddopbmjepaaDoor
theorem str_eq {x : ByteArray} {l : List UInt8} (h : x.data.toList = l) : x = ⟨l.toArray⟩ := by
  cases x; subst h; simp

theorem str_eq' {x : ByteArray} {l : List UInt8} (h : l = x.data.toList) : (⟨l.toArray⟩ : ByteArray) = x := by
  cases x; subst h; simp
end Go.Proofs.YtahmddopbmjepaaDoor
namespace Go.Proofs.YtahmddopbmjepaaDoor
open Go.RowKit

set_option maxHeartbeats 400000 in
theorem refTag_walk (s : ByteArray) (w : World) (hs : s.size ≤ maxLen) :
    Calls Tryd.prog 22 #[.string s] w fun e w' => e = .returned (.string ⟨(Tags.tag s.data.toList).toArray⟩) ∧ w = w' := by
  have hs' : s.size ≤ 9223372036854775807 := by unfold maxLen at hs; omega
  clear hs
  go_enter Tryd.func22, Tryd.ntmps22
  go_wp2
  go_loop [3] (fun i => ∃ n : Nat, n ≤ s.size ∧ i = .int .i64 n ∧ Hid (123 ∉ s.data.toList.take n)) (fun i => s.size - (intOf i).toNat)
  case atStart => exact ⟨0, Nat.zero_le _, rfl, Lib.hid (by simp)⟩
  case round =>
    obtain ⟨n, hn, rfl, HN⟩ := hrel
    by_cases h : n < s.size
    · have hL : n < s.data.toList.length := by simpa using h
      have eL : s.data.toList[n] = s[n] := by simp; rfl
      go_wp2
      · have ht : ((s[n].toNat : Int) != 123) = true := by assumption
        have hne : s.data.toList[n] ≠ 123 := by
          rw [eL]
          exact Tags.u8_ne (k := 123) (by decide) (by simpa [bne] using ht)
        go_round
        case rel => exact ⟨n + 1, by omega, by go_num, Lib.hid (Tags.notin_succ hL HN.out hne)⟩
        case measure => simp [intOf]; omega
      · have ht : ((s[n].toNat : Int) != 123) = false := by assumption
        have hq : s.data.toList[n] = 123 := by
          rw [eL]
          exact Tags.u8_eq (k := 123) (by decide) (by simpa [bne] using ht)
        have HQ := Lib.hid hq
        clear hq
        go_loop [4] (fun i => ∃ m : Nat, n + 1 ≤ m ∧ m ≤ s.size ∧ i = .int .i64 m ∧ Hid (125 ∉ (s.data.toList.drop (n + 1)).take (m - (n + 1)))) (fun i => s.size - (intOf i).toNat)
        case atStart => exact ⟨n + 1, by omega, by omega, by go_num, Lib.hid (by simp)⟩
        case round =>
          obtain ⟨m, hm1, hm2, rfl, HM⟩ := hrel
          by_cases hms : m < s.size
          · have hM : m < s.data.toList.length := by simpa using hms
            have eM : s.data.toList[m] = s[m] := by simp; rfl
            by_cases hme : m = n + 1
            · subst hme
              go_wp2
              · have ht : ((s[n + 1].toNat : Int) == 125) = true := by assumption
                have hq : s.data.toList[n + 1] = 125 := by
                  rw [eM]
                  exact Tags.u8_eq (k := 125) (by decide) ht
                go_ret
                have ht : (⟨(Tags.tag s.data.toList).toArray⟩ : ByteArray) = s := str_eq' (Tags.tag_empty hL HN.out HQ.out hM hq)
                exact ⟨by rw [ht]; rfl, rfl⟩
              · have ht : ((s[n + 1].toNat : Int) == 125) = false := by assumption
                have hne : s.data.toList[n + 1] ≠ 125 := by
                  rw [eM]
                  exact Tags.u8_ne (k := 125) (by decide) ht
                go_round
                case rel => exact ⟨n + 1 + 1, by omega, by omega, by go_num, Lib.hid (Tags.notin_drop_succ (by omega) hM HM.out hne)⟩
                case measure => simp [intOf]; omega
            · go_wp2
              · have ht : ((s[m].toNat : Int) == 125) = true := by assumption
                have hq : s.data.toList[m] = 125 := by
                  rw [eM]
                  exact Tags.u8_eq (k := 125) (by decide) ht
                go_ret
                have ht : s.extract (n + 1) m = (⟨(Tags.tag s.data.toList).toArray⟩ : ByteArray) := str_eq (by
                  rw [Lib.extract_data, Tags.tag_found hL HN.out HQ.out (by omega) hM HM.out hq])
                exact ⟨by rw [← ht]; rfl, rfl⟩
              · have ht : ((s[m].toNat : Int) == 125) = false := by assumption
                have hne : s.data.toList[m] ≠ 125 := by
                  rw [eM]
                  exact Tags.u8_ne (k := 125) (by decide) ht
                go_round
                case rel => exact ⟨m + 1, by omega, by omega, by go_num, Lib.hid (Tags.notin_drop_succ (by omega) hM HM.out hne)⟩
                case measure => simp [intOf]; omega
          · go_wp2
            go_ret
            have ht : (⟨(Tags.tag s.data.toList).toArray⟩ : ByteArray) = s := str_eq' (Tags.tag_open hL HN.out HQ.out (by
              have := HM.out
              rw [List.take_of_length_le (by simp; omega)] at this
              exact this))
            exact ⟨by rw [ht]; rfl, rfl⟩
    · go_wp2
      go_ret
      have ht : (⟨(Tags.tag s.data.toList).toArray⟩ : ByteArray) = s := str_eq' (Tags.tag_no (by
        have := HN.out
        rw [List.take_of_length_le (by simp; omega)] at this
        exact this))
      exact ⟨by rw [ht]; rfl, rfl⟩
end Go.Proofs.YtahmddopbmjepaaDoor
namespace Go.Proofs.YtahmddopbmjepaaDoor
open Go.RowKit

/-- the slot of a key. -/
def slotOf (k : List UInt8) : Nat := Crc16.crc (Tags.tag k) % 16384

theorem slotOf_lt (k : List UInt8) : slotOf k < 16384 := Nat.mod_lt _ (by decide)

theorem refSlot_walk (s : ByteArray) (w : World) (hs : s.size ≤ maxLen) :
    Calls Tryd.prog 18 #[.string s] w fun e w' => e = .returned (.int .i64 (slotOf s.data.toList)) ∧ w = w' := by
  have htl : (⟨(Tags.tag s.data.toList).toArray⟩ : ByteArray).size ≤ maxLen := by
    have := Tags.tag_len s.data.toList
    have h2 : (⟨(Tags.tag s.data.toList).toArray⟩ : ByteArray).size = (Tags.tag s.data.toList).length := rfl
    rw [h2]
    simp at this; omega
  have HTL := Lib.hid htl
  clear htl
  go_enter Tryd.func18, Tryd.ntmps18
  go_wp2_with fail
  refine (refTag_walk s _ hs).mono ?_
  rintro e w1 ⟨rfl, rfl⟩
  go_wp2_with fail
  refine (refCrc_walk _ _ HTL.out).mono ?_
  rintro e w1 ⟨rfl, rfl⟩
  have hlt := Crc16.crc_lt (Tags.tag s.data.toList)
  have he : ((Crc16.crc (Tags.tag s.data.toList) : Int) % 16384) = ((slotOf s.data.toList : Nat) : Int) := by unfold slotOf; omega
  have HE := Lib.hid he
  clear he
  go_wp2
  go_ret
  exact ⟨by rw [HE.out]; rfl, rfl⟩

end Go.Proofs.YtahmddopbmjepaaDoor
