/- The contract of readSlot: the one text of a slot. -/
import Derived.Test.YtlbmkgnfbkimaaaDoorProg
import Derived.Test.YtlbmkgnfbkimaaaDoorReadPlain
import Derived.Test.YtlbmkgnfbkimaaaDoorCutOne
import Derived.WalkKit
import Derived.WalkLawsBesides
import Derived.WalkSpells
import Derived.WalkMore
import Derived.Lib.Hide
import Derived.Outline
import Derived.Below
namespace Go.Proofs.YtlbmkgnfbkimaaaDoor
open Go.RowKit

/-- what readSlot hands back. -/
def SlotPost (o : Option Int) (w : World) (e : Ending) (w' : World) : Prop :=
  e = .returned (.tuple #[.int .i64 (o.getD 0), .bool o.isSome]) ∧ w = w'

theorem go_drop {l : List UInt8} {k : Nat} (h : k < l.length) : l.drop k = l[k] :: l.drop (k + 1) := List.drop_eq_getElem_cons h

set_option maxRecDepth 100000 in
set_option maxHeartbeats 4000000 in
theorem readSlot_some (s : ByteArray) (w : World) (hs : s.size ≤ 1000000) (h0 : s.data.toList ≠ []) (hz : ¬ (s.data.toList.head? = some 48 ∧ s.data.toList ≠ [48])) :
    Calls Tryd.prog 59 #[.string s] w (SlotPost (Rs.go 0 s.data.toList) w) := by
  have hpos : 0 < s.size := by
    rcases Nat.lt_or_ge 0 s.size with h | h
    · exact h
    · exact absurd (List.eq_nil_of_length_eq_zero (by rw [Array.length_toList]; show s.size = 0; omega)) h0
  have hse : s.toList.isEmpty = false := by
    rw [Lib.toList_data]
    cases h : s.data.toList with
    | nil => exact absurd h h0
    | cons x r => rfl
  have HNZ := Lib.hid hz
  have HNE := Lib.hid h0
  have hidx0 : ∀ W : World, (Instr.index 9 (.string s) (.int .i64 0)).run Tryd.prog W = .ok (.int .u8 ((s[0].toNat : Nat) : Int)) W := fun W => by
    rw [run_index_string W 9 s .i64 0 Tryd.underlying9, dif_pos ⟨by omega, by omega⟩]
    rfl
  have hhead : s.data.toList.head? = some s[0] := by
    rw [List.head?_eq_getElem?, List.getElem?_eq_getElem (by simpa using hpos)]
    rfl
  have HH := Lib.hid hhead
  clear hz h0 hhead
  have key : (((s[0].toNat : Int) == 48) = true → (!(s.toList == ([48] : List UInt8))) = false) := by
    intro h
    have h48 : s[0] = 48 := Tags.u8_eq (k := 48) (by omega) h
    have : s.data.toList = [48] := by
      by_cases h2 : s.data.toList = [48]
      · exact h2
      · exact absurd ⟨by rw [HH.out, h48], h2⟩ HNZ.out
    rw [Lib.toList_data, this]
    rfl
  have HK := Lib.hid key
  clear key
  generalize hx0 : s[0].toNat = x0 at hidx0
  have HX0 := Lib.hid hx0
  clear hx0
  go_enter Tryd.func59, Tryd.ntmps59
  by_cases hc : ((x0 : Int) == 48) = true
  · have hk := HK.out (by rw [HX0.out]; exact hc)
    go_wp2
    go_loop [4, 19] (fun n i => ∃ (k : Nat) (z : Int), k ≤ s.size ∧ i = .int .i64 k ∧ n = .int .i64 z ∧ 0 ≤ z ∧ z < 16384 ∧ Hid (Rs.go z (s.data.toList.drop k) = Rs.go 0 s.data.toList)) (fun _ i => s.size - (intOf i).toNat)
    case atStart => exact ⟨0, 0, Nat.zero_le _, rfl, rfl, Int.le_refl _, by decide, Lib.hid rfl⟩
    case round =>
      obtain ⟨k, z, hk', rfl, rfl, z0, z1, HG⟩ := hrel
      by_cases hlt : k < s.size
      · have hdr : s.data.toList.drop k = s[k] :: s.data.toList.drop (k + 1) := go_drop (by simpa using hlt)
        have hidx : ∀ W : World, (Instr.index 9 (.string s) (.int .i64 (k : Int))).run Tryd.prog W = .ok (.int .u8 ((s[k].toNat : Nat) : Int)) W := fun W => by
          rw [run_index_string W 9 s .i64 (k : Int) Tryd.underlying9, dif_pos ⟨by omega, by omega⟩]
          rfl
        have hx8 : s[k].toNat < 256 := UInt8.toNat_lt _
        have hkI : (k : Int) < (s.size : Int) := by omega
        have hgo : Rs.go z (s.data.toList.drop k) = if s[k].toNat < 48 ∨ 57 < s[k].toNat then none else if 16384 ≤ z * 10 + ((s[k].toNat : Int) - 48) then none else Rs.go (z * 10 + ((s[k].toNat : Int) - 48)) (s.data.toList.drop (k + 1)) := by
          rw [hdr]; rfl
        rw [HG.out] at hgo
        have HGO := Lib.hid hgo
        clear hgo hdr
        generalize s[k].toNat = x at *
        by_cases hA : 48 ≤ x
        · by_cases hB : x ≤ 57
          · have exx : IntKind.u8.wrap ((x : Int) - 48) = (x : Int) - 48 := by rw [IntKind.wrap_u8]; omega
            by_cases hC : 16384 ≤ z * 10 + ((x : Int) - 48)
            · have hr := HGO.out
              rw [if_neg (by omega), if_pos hC] at hr
              have HR := Lib.hid hr
              clear hr
              go_wp2
              go_ret2
              exact ⟨by rw [HR.out]; rfl, rfl⟩
            · have hC' : z * 10 + ((x : Int) - 48) < 16384 := by omega
              have hr := HGO.out
              rw [if_neg (by omega), if_neg hC] at hr
              have HR := Lib.hid hr
              clear hr
              go_wp2
              go_round
              case rel => exact ⟨k + 1, z * 10 + ((x : Int) - 48), by omega, by go_num, by go_num, by omega, by omega, Lib.hid HR.out.symm⟩
              case measure => simp [intOf]; omega
          · have hr := HGO.out
            rw [if_pos (by omega)] at hr
            have HR := Lib.hid hr
            clear hr
            go_wp2
            go_ret2
            exact ⟨by rw [HR.out]; rfl, rfl⟩
        · have hr := HGO.out
          rw [if_pos (by omega)] at hr
          have HR := Lib.hid hr
          clear hr
          go_wp2
          go_ret2
          exact ⟨by rw [HR.out]; rfl, rfl⟩
      · obtain rfl : k = s.size := by omega
        have hr := HG.out
        rw [List.drop_of_length_le (by simp)] at hr
        have HR : Hid (Rs.go 0 s.data.toList = some z) := Lib.hid hr.symm
        clear hr
        go_wp2
        go_ret2
        exact ⟨by rw [HR.out]; rfl, rfl⟩
  · have hc' : ((x0 : Int) == 48) = false := by simpa using hc
    go_wp2
    go_loop [4, 19] (fun n i => ∃ (k : Nat) (z : Int), k ≤ s.size ∧ i = .int .i64 k ∧ n = .int .i64 z ∧ 0 ≤ z ∧ z < 16384 ∧ Hid (Rs.go z (s.data.toList.drop k) = Rs.go 0 s.data.toList)) (fun _ i => s.size - (intOf i).toNat)
    case atStart => exact ⟨0, 0, Nat.zero_le _, rfl, rfl, Int.le_refl _, by decide, Lib.hid rfl⟩
    case round =>
      obtain ⟨k, z, hk', rfl, rfl, z0, z1, HG⟩ := hrel
      by_cases hlt : k < s.size
      · have hdr : s.data.toList.drop k = s[k] :: s.data.toList.drop (k + 1) := go_drop (by simpa using hlt)
        have hidx : ∀ W : World, (Instr.index 9 (.string s) (.int .i64 (k : Int))).run Tryd.prog W = .ok (.int .u8 ((s[k].toNat : Nat) : Int)) W := fun W => by
          rw [run_index_string W 9 s .i64 (k : Int) Tryd.underlying9, dif_pos ⟨by omega, by omega⟩]
          rfl
        have hx8 : s[k].toNat < 256 := UInt8.toNat_lt _
        have hkI : (k : Int) < (s.size : Int) := by omega
        have hgo : Rs.go z (s.data.toList.drop k) = if s[k].toNat < 48 ∨ 57 < s[k].toNat then none else if 16384 ≤ z * 10 + ((s[k].toNat : Int) - 48) then none else Rs.go (z * 10 + ((s[k].toNat : Int) - 48)) (s.data.toList.drop (k + 1)) := by
          rw [hdr]; rfl
        rw [HG.out] at hgo
        have HGO := Lib.hid hgo
        clear hgo hdr
        generalize s[k].toNat = x at *
        by_cases hA : 48 ≤ x
        · by_cases hB : x ≤ 57
          · have exx : IntKind.u8.wrap ((x : Int) - 48) = (x : Int) - 48 := by rw [IntKind.wrap_u8]; omega
            by_cases hC : 16384 ≤ z * 10 + ((x : Int) - 48)
            · have hr := HGO.out
              rw [if_neg (by omega), if_pos hC] at hr
              have HR := Lib.hid hr
              clear hr
              go_wp2
              go_ret2
              exact ⟨by rw [HR.out]; rfl, rfl⟩
            · have hC' : z * 10 + ((x : Int) - 48) < 16384 := by omega
              have hr := HGO.out
              rw [if_neg (by omega), if_neg hC] at hr
              have HR := Lib.hid hr
              clear hr
              go_wp2
              go_round
              case rel => exact ⟨k + 1, z * 10 + ((x : Int) - 48), by omega, by go_num, by go_num, by omega, by omega, Lib.hid HR.out.symm⟩
              case measure => simp [intOf]; omega
          · have hr := HGO.out
            rw [if_pos (by omega)] at hr
            have HR := Lib.hid hr
            clear hr
            go_wp2
            go_ret2
            exact ⟨by rw [HR.out]; rfl, rfl⟩
        · have hr := HGO.out
          rw [if_pos (by omega)] at hr
          have HR := Lib.hid hr
          clear hr
          go_wp2
          go_ret2
          exact ⟨by rw [HR.out]; rfl, rfl⟩
      · obtain rfl : k = s.size := by omega
        have hr := HG.out
        rw [List.drop_of_length_le (by simp)] at hr
        have HR : Hid (Rs.go 0 s.data.toList = some z) := Lib.hid hr.symm
        clear hr
        go_wp2
        go_ret2
        exact ⟨by rw [HR.out]; rfl, rfl⟩

set_option maxRecDepth 100000 in
set_option maxHeartbeats 2000000 in
theorem readSlot_nil (s : ByteArray) (w : World) (h0 : s.data.toList = []) :
    Calls Tryd.prog 59 #[.string s] w (SlotPost none w) := by
  have hse : s.toList.isEmpty = true := by rw [Lib.toList_data, h0]; rfl
  clear h0
  go_enter Tryd.func59, Tryd.ntmps59
  go_wp2
  go_ret2
  exact ⟨rfl, rfl⟩

set_option maxRecDepth 100000 in
set_option maxHeartbeats 2000000 in
theorem readSlot_zero (s : ByteArray) (w : World) (hs : s.size ≤ 1000000) (h1 : s.data.toList.head? = some 48) (h2 : s.data.toList ≠ [48]) :
    Calls Tryd.prog 59 #[.string s] w (SlotPost none w) := by
  have hpos : 0 < s.size := by
    rcases Nat.lt_or_ge 0 s.size with h | h
    · exact h
    · rw [List.eq_nil_of_length_eq_zero (l := s.data.toList) (by rw [Array.length_toList]; show s.size = 0; omega)] at h1; simp at h1
  have hse : s.toList.isEmpty = false := by
    rw [Lib.toList_data]
    cases h : s.data.toList with
    | nil => rw [h] at h1; simp at h1
    | cons x r => rfl
  have hhead : s.data.toList.head? = some s[0] := by
    rw [List.head?_eq_getElem?, List.getElem?_eq_getElem (by simpa using hpos)]
    rfl
  have h48 : s[0] = 48 := by rw [hhead] at h1; exact Option.some.inj h1
  have hidx0 : ∀ W : World, (Instr.index 9 (.string s) (.int .i64 0)).run Tryd.prog W = .ok (.int .u8 48) W := fun W => by
    rw [run_index_string W 9 s .i64 0 Tryd.underlying9, dif_pos ⟨by omega, by omega⟩]
    show Result.ok (Value.int .u8 ((s[0].toNat : Nat) : Int)) W = _
    rw [h48]; rfl
  have hne : (!(s.toList == ([48] : List UInt8))) = true := by
    rw [Lib.toList_data]
    simpa using h2
  clear hhead h48 h1 h2
  go_enter Tryd.func59, Tryd.ntmps59
  go_wp2
  go_ret2
  exact ⟨rfl, rfl⟩

theorem readSlot_any (s : ByteArray) (w : World) (hs : s.size ≤ 1000000) :
    Calls Tryd.prog 59 #[.string s] w (SlotPost (Rs.slot s.data.toList) w) := by
  unfold Rs.slot
  by_cases h0 : s.data.toList = []
  · rw [if_pos (.inl h0)]
    exact readSlot_nil s w h0
  · by_cases hz : s.data.toList.head? = some 48 ∧ s.data.toList ≠ [48]
    · rw [if_pos (.inr hz)]
      exact readSlot_zero s w hs hz.1 hz.2
    · rw [if_neg (fun h => h.elim h0 hz)]
      exact readSlot_some s w hs h0 hz
end Go.Proofs.YtlbmkgnfbkimaaaDoor
