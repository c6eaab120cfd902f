/- The contracts of slot.remainder, slot.Crc, caravanref1.Crc. -/
import Derived.Test.YtbkhnnjjpelfcaaGreatDoorBytes
import Derived.Test.YtbkhnnjjpelfcaaGreatDoorProg
import Derived.Test.YtbkhnnjjpelfcaaGreatDoorSlotPlain
import Derived.WalkKit
import Derived.WalkLawsBesides
import Derived.WalkSpells
import Derived.WalkMore
import Derived.Lib.Hide
import Derived.Outline
import Derived.Deep.Cut
import Derived.Deep.CutRange
import Derived.Laws.BitsAllLaws
namespace Go.Proofs.YtbkhnnjjpelfcaaGreatDoor
open Go.RowKit

theorem i64_xor_nat (a b : Nat) (ha : a < 9223372036854775808) (hb : b < 9223372036854775808) : bits .xor .i64 (a : Int) (b : Int) = ((a ^^^ b : Nat) : Int) := by
  have hx : a ^^^ b < 2 ^ 63 := Nat.xor_lt_two_pow ha hb
  have h1 : (BitVec.ofInt 64 (a : Int)).toNat = a := by
    rw [BitVec.ofInt_natCast, BitVec.toNat_ofNat]; exact Nat.mod_eq_of_lt (by omega)
  have h2 : (BitVec.ofInt 64 (b : Int)).toNat = b := by
    rw [BitVec.ofInt_natCast, BitVec.toNat_ofNat]; exact Nat.mod_eq_of_lt (by omega)
  show IntKind.i64.wrap ((BitVec.ofInt 64 (a : Int) ^^^ BitVec.ofInt 64 (b : Int)).toNat : Int) = _
  rw [BitVec.toNat_xor, h1, h2, IntKind.wrap_i64]
  omega

theorem i64_and_nat (a b : Nat) (ha : a < 9223372036854775808) (hb : b < 9223372036854775808) : bits .and .i64 (a : Int) (b : Int) = ((a &&& b : Nat) : Int) := by
  have hx : a &&& b < 2 ^ 63 := Nat.and_lt_two_pow _ hb
  have h1 : (BitVec.ofInt 64 (a : Int)).toNat = a := by
    rw [BitVec.ofInt_natCast, BitVec.toNat_ofNat]; exact Nat.mod_eq_of_lt (by omega)
  have h2 : (BitVec.ofInt 64 (b : Int)).toNat = b := by
    rw [BitVec.ofInt_natCast, BitVec.toNat_ofNat]; exact Nat.mod_eq_of_lt (by omega)
  show IntKind.i64.wrap ((BitVec.ofInt 64 (a : Int) &&& BitVec.ofInt 64 (b : Int)).toNat : Int) = _
  rw [BitVec.toNat_and, h1, h2, IntKind.wrap_i64]
  omega

theorem ret_int {k : IntKind} {a b : Int} (h : a = b) : Ending.returned (.int k a) = .returned (.int k b) := by rw [h]

theorem pow_cast (m x : Nat) : ((x : Int) / 2 ^ (16 + m)) = ((x / 2 ^ (16 + m) : Nat) : Int) := by
  rw [Int.natCast_ediv]; congr 1

theorem shl_cast (m : Nat) (hm : m ≤ 7) : ((69665 : Int) * 2 ^ m % 4294967296) = ((69665 * 2 ^ m : Nat) : Int) := by
  have h := Crc16.poly_lt hm
  have e : ((69665 : Int) * 2 ^ m) = ((69665 * 2 ^ m : Nat) : Int) := by rw [Int.natCast_mul]; congr 1
  rw [e]; omega

theorem and1_cast (x : Nat) (hx : x < 16777216) (m : Nat) : bits .and .u32 ((x : Int) / 2 ^ (16 + m)) 1 = ((x / 2 ^ (16 + m) % 2 : Nat) : Int) := by
  have h1 : x / 2 ^ (16 + m) ≤ x := Nat.div_le_self _ _
  have := u32_and_nat (x / 2 ^ (16 + m)) 1 (by omega) (by decide)
  rw [pow_cast, ← Crc16.mask1]
  exact this

theorem xor_cast (x m : Nat) (hx : x < 16777216) (hm : m ≤ 7) : bits .xor .u32 (x : Int) (69665 * 2 ^ m % 4294967296) = ((x ^^^ (69665 * 2 ^ m) : Nat) : Int) := by
  rw [shl_cast m hm]
  have h := Crc16.poly_lt hm
  exact u32_xor_nat _ _ (by omega) (by omega)

set_option maxHeartbeats 400000 in
theorem rem_walk (d : Nat) (hd : d < 16777216) (w : World) :
    Calls Tryz.prog 42 #[.int .u32 d] w fun e w' => e = .returned (.int .u32 (Crc16.remTo 8 d)) ∧ w = w' := by
  go_enter Tryz.func42, Tryz.ntmps42
  go_wp2
  go_step3
  go_wp2
  go_step3
  go_wp2
  go_loop [3, 4] (fun r s => ∃ n x : Nat, n ≤ 8 ∧ x < 16777216 ∧ r = .int .u32 x ∧ s = .int .i64 ((n : Int) - 1) ∧ Crc16.remTo n x = Crc16.remTo 8 d) (fun _ s => (intOf s + 1).toNat)
  case atStart => exact ⟨8, d, by omega, hd, rfl, rfl, rfl⟩
  case round =>
    obtain ⟨n, x, hn, hx, rfl, rfl, hr⟩ := hrel
    have HR := Lib.hid hr
    clear hr
    cases n with
    | zero =>
      go_wp2
      go_ret
      exact ⟨by rw [← HR.out]; rfl, rfl⟩
    | succ m =>
      have e1 : ∀ b : Bool, (bits .and .u32 ((x : Int) / 2 ^ (16 + m)) 1 == 1) = b → decide (x / 2 ^ (16 + m) % 2 = 1) = b := by
        intro b hb
        rw [and1_cast x hx] at hb
        rw [← hb]
        generalize x / 2 ^ (16 + m) % 2 = z
        rw [Bool.eq_iff_iff]; simp; omega
      go_wp2
      · have h0 : ((x : Int) / 65536 == 0) = true := by assumption
        go_ret
        have hs : x < 65536 := by
          have := beq_iff_eq.1 h0
          omega
        exact ⟨ret_int (by rw [← HR.out, Crc16.remTo_small _ _ hs]), rfl⟩
      · have h1 : (bits .and .u32 ((x : Int) / 2 ^ (16 + m)) 1 == 1) = true := by assumption
        have h2 : x / 2 ^ (16 + m) % 2 = 1 := of_decide_eq_true (e1 _ h1)
        have h3 : Crc16.bitStep m x = x ^^^ (69665 * 2 ^ m) := by unfold Crc16.bitStep; rw [if_pos h2]
        have h4 := Crc16.bitStep_lt (s := m) (by omega) hx
        go_round
        case rel => exact ⟨m, Crc16.bitStep m x, by omega, h4, by rw [h3, xor_cast x m hx (by omega)], rfl, HR.out⟩
        case measure => simp [intOf]
      · have h1 : (bits .and .u32 ((x : Int) / 2 ^ (16 + m)) 1 == 1) = false := by assumption
        have h2 : ¬ x / 2 ^ (16 + m) % 2 = 1 := of_decide_eq_false (e1 _ h1)
        have h3 : Crc16.bitStep m x = x := by unfold Crc16.bitStep; rw [if_neg h2]
        go_round
        case rel => exact ⟨m, Crc16.bitStep m x, by omega, by rw [h3]; exact hx, by rw [h3], rfl, HR.out⟩
        case measure => simp [intOf]

theorem crc_none (a : Option Addr) (cap : Nat) (w : World) :
    Calls Tryz.prog 22 #[.slice a 0 cap] w fun e w' => e = .returned (.int .i64 0) ∧ w = w' := by
  go_enter Tryz.func22, Tryz.ntmps22
  go_wp2
  go_loop [3, 8] (fun c k => k = .int .i64 0 ∧ c = .int .u32 0) (fun _ _ => 0)
  case atStart => exact ⟨rfl, rfl⟩
  case round =>
    obtain ⟨rfl, rfl⟩ := hrel
    go_wp2
    go_ret
    exact ⟨rfl, rfl⟩

theorem byte_cast (c x : Nat) (hc : c < 65536) (hx : x < 256) : bits .xor .u32 ((c : Int) * 256) ((x : Int) * 65536) = (((c * 256) ^^^ (x * 65536) : Nat) : Int) := by
  have e1 : ((c : Int) * 256) = ((c * 256 : Nat) : Int) := by omega
  have e2 : ((x : Int) * 65536) = ((x * 65536 : Nat) : Int) := by omega
  rw [e1, e2]
  exact u32_xor_nat _ _ (by omega) (by omega)

theorem xor_lt24 (c x : Nat) (hc : c < 65536) (hx : x < 256) : (c * 256) ^^^ (x * 65536) < 16777216 :=
  Nat.xor_lt_two_pow (n := 24) (by omega) (by omega)

theorem take_snoc (l : List UInt8) (k : Nat) (h : k < l.length) : l.take (k + 1) = l.take k ++ [l.getD k 0] := by
  rw [List.take_succ_eq_append_getElem h]; simp [List.getD, h]

set_option maxHeartbeats 400000 in
theorem crc_some (b off cap : Nat) (l : List UInt8) (w : World) (hl : l.length ≤ 9223372036854775807) (hc : ∀ k, k < l.length → w.cell? ⟨b, off + k, none⟩ = some (.int .u8 ((l.getD k 0).toNat : Int))) :
    Calls Tryz.prog 22 #[.slice (some ⟨b, off, none⟩) l.length cap] w fun e w' => e = .returned (.int .i64 (Crc16.crc l)) ∧ w = w' := by
  go_enter Tryz.func22, Tryz.ntmps22
  go_wp2
  go_loop [3, 8] (fun c k => ∃ n : Nat, n ≤ l.length ∧ k = .int .i64 n ∧ c = .int .u32 (Crc16.crc (l.take n))) (fun _ k => l.length - (intOf k).toNat)
  case atStart => exact ⟨0, Nat.zero_le _, rfl, rfl⟩
  case round =>
    obtain ⟨n, hn, rfl, rfl⟩ := hrel
    have hlt := Crc16.crc_lt (l.take n)
    by_cases h : n < l.length
    · obtain ⟨x, hx⟩ : ∃ x : Nat, x = (l.getD n 0).toNat := ⟨_, rfl⟩
      have hx8 : x < 256 := by rw [hx]; exact UInt8.toNat_lt _
      have hcell : w.cell? ⟨b, off + n, none⟩ = some (.int .u8 (x : Int)) := by rw [hx]; exact hc n h
      have hs : Crc16.crc (l.take (n + 1)) = Crc16.byte (Crc16.crc (l.take n)) x := by rw [take_snoc l n h, Crc16.crc_snoc, hx]
      have HS := Lib.hid hs
      clear hs hx hc
      generalize Crc16.crc (l.take n) = c at *
      go_wp2_with fail
      rw [byte_cast c x hlt hx8]
      refine (rem_walk _ (xor_lt24 c x hlt hx8) _).mono ?_
      rintro e w' ⟨rfl, rfl⟩
      rw [Crc16.byte_eq c x hlt hx8]
      go_wp2
      go_round
      case rel => exact ⟨n + 1, by omega, by go_num, by rw [HS.out]⟩
      case measure => simp [intOf]; omega
    · obtain rfl : n = l.length := by omega
      have hlt2 := Crc16.crc_lt l
      go_wp2
      go_ret
      exact ⟨rfl, rfl⟩

/-- Crc of a slice of bytes. -/
theorem crc_any (a : Option Addr) (cap : Nat) (l : List UInt8) (w : World) (hl : l.length ≤ 9223372036854775807) (hb : Bytes w a l) :
    Calls Tryz.prog 22 #[.slice a l.length cap] w fun e w' => e = .returned (.int .i64 (Crc16.crc l)) ∧ w = w' := by
  rcases hb with rfl | ⟨b, off, rfl, hc⟩
  · exact crc_none a cap w
  · exact crc_some b off cap l w hl hc

theorem sl_cast (c x : Nat) (hc : c < 65536) (hx : x < 256) : bits .xor .i64 (c : Int) ((x : Int) * 256) = ((c ^^^ (x * 256) : Nat) : Int) := by
  have e2 : ((x : Int) * 256) = ((x * 256 : Nat) : Int) := by omega
  rw [e2]
  exact i64_xor_nat _ _ (by omega) (by omega)

set_option maxRecDepth 100000 in
set_option maxHeartbeats 400000 in
theorem refCrc_walk (s : ByteArray) (w : World) (hs : s.size ≤ maxLen) :
    Calls Tryz.prog 26 #[.string s] w fun e w' => e = .returned (.int .i64 (Crc16.crc s.data.toList)) ∧ w = w' := by
  have hs' : s.size ≤ 9223372036854775807 := by unfold maxLen at hs; omega
  clear hs
  go_enter Tryz.func26, Tryz.ntmps26
  go_wp2
  go_loop [3, 4, 5] (fun c i _ => ∃ n : Nat, n ≤ s.size ∧ i = .int .i64 n ∧ c = .int .i64 (Crc16.crc (s.data.toList.take n))) (fun _ i _ => s.size - (intOf i).toNat)
  case atStart => exact ⟨0, Nat.zero_le _, rfl, rfl⟩
  case round =>
    obtain ⟨n, hn, rfl, rfl⟩ := hrel
    have hlt := Crc16.crc_lt (s.data.toList.take n)
    by_cases h : n < s.size
    · have hx8 : s[n].toNat < 256 := UInt8.toNat_lt _
      have hs' : Crc16.crc (s.data.toList.take (n + 1)) = Crc16.byte (Crc16.crc (s.data.toList.take n)) s[n].toNat := by
        rw [take_snoc _ n (by simpa using h), Crc16.crc_snoc]
        congr 2
        simp [List.getD, h]
        rfl
      have HS := Lib.hid hs'
      clear hs'
      go_wp2_with fail
      generalize Crc16.crc (s.data.toList.take n) = c at *
      generalize s[n].toNat = x at *
      simp only [sl_cast c x hlt hx8]
      go_loop [3, 5] (fun c' k => ∃ m y : Nat, m ≤ 8 ∧ y < 65536 ∧ k = .int .i64 m ∧ c' = .int .i64 y ∧ Crc16.steps (8 - m) y = Crc16.byte c x) (fun _ k => 8 - (intOf k).toNat)
      case atStart => exact ⟨0, _, by omega, Nat.xor_lt_two_pow (n := 16) hlt (by omega), rfl, rfl, rfl⟩
      case round =>
        obtain ⟨m, y, hm, hy, rfl, rfl, hst⟩ := hrel
        have HT := Lib.hid hst
        clear hst
        by_cases hm8 : m < 8
        · have e8 : 8 - m = (8 - (m + 1)) + 1 := by omega
          have hst2 : Crc16.steps (8 - (m + 1)) (Crc16.step y) = Crc16.byte c x := by
            have := HT.out
            rw [e8] at this
            exact this
          have HT2 := Lib.hid hst2
          have hlo := Crc16.step_lt y
          have HSr := Lib.hid (Crc16.step_ref y hy)
          clear hst2 HT e8
          by_cases hy2 : 32768 ≤ y
          · have hx0 : bits .and .i64 (bits .xor .i64 ((2 * y : Nat) : Int) 4129) 65535 = ((Crc16.step y : Nat) : Int) := by
              have hlt2 : (2 * y) ^^^ 4129 < 2 ^ 17 := Nat.xor_lt_two_pow (by omega) (by decide)
              have g1 := i64_xor_nat (2 * y) 4129 (by omega) (by decide)
              have g2 := i64_and_nat ((2 * y) ^^^ 4129) 65535 (by omega) (by decide)
              have g3 : bits .xor .i64 ((2 * y : Nat) : Int) 4129 = (((2 * y) ^^^ 4129 : Nat) : Int) := g1
              rw [g3]
              have g4 : bits .and .i64 (((2 * y) ^^^ 4129 : Nat) : Int) 65535 = ((((2 * y) ^^^ 4129) &&& 65535 : Nat) : Int) := g2
              rw [g4, HSr.out, if_pos (by omega)]
            go_upto_region 10 with (fail)
            have ez : ((y : Int) * 2) = ((2 * y : Nat) : Int) := by omega
            have hz : (65536 : Int) ≤ ((2 * y : Nat) : Int) := by omega
            have hz2 : ((2 * y : Nat) : Int) ≤ 131071 := by omega
            rw [ez]
            have HX := Lib.hid hx0
            clear ez hx0
            generalize ((2 * y : Nat) : Int) = z at *
            go_wp2
            go_round
            case rel => exact ⟨m + 1, Crc16.step y, by omega, hlo, by go_num, by rw [HX.out], HT2.out⟩
            case measure => simp [intOf]; omega
          · have hx0 : ((2 * y : Nat) : Int) = ((Crc16.step y : Nat) : Int) := by
              rw [HSr.out, if_neg (by omega)]
            go_upto_region 10 with (fail)
            have ez : ((y : Int) * 2) = ((2 * y : Nat) : Int) := by omega
            have hz2 : ((2 * y : Nat) : Int) < 65536 := by omega
            have hz0 : 0 ≤ ((2 * y : Nat) : Int) := by omega
            rw [ez]
            have HX := Lib.hid hx0
            clear ez hx0
            generalize ((2 * y : Nat) : Int) = z at *
            go_wp2
            go_round
            case rel => exact ⟨m + 1, Crc16.step y, by omega, hlo, by go_num, by rw [HX.out], HT2.out⟩
            case measure => simp [intOf]; omega
        · obtain rfl : m = 8 := by omega
          have hy8 : y = Crc16.byte c x := HT.out
          have HY := Lib.hid hy8
          clear hy8 HT
          go_wp2
          go_round
          case rel => exact ⟨n + 1, by omega, by go_num, by rw [HS.out, HY.out]⟩
          case measure => simp [intOf]; omega
    · obtain rfl : n = s.size := by omega
      have hlt2 := Crc16.crc_lt s.data.toList
      have ht : s.data.toList.take s.size = s.data.toList := List.take_of_length_le (by simp)
      rw [ht]
      clear ht hlt
      go_wp2
      go_ret
      exact ⟨rfl, rfl⟩
end Go.Proofs.YtbkhnnjjpelfcaaGreatDoor
