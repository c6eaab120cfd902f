/- What Go's decoder says of bytes from 128 on: none of them is a line's end, and what it tells is none. No program in it. bytes.IndexAny keeps its contract at all bytes. bytes.IndexAny at one byte, and at more than 8. -/
import Derived.Test.YtbkhnnjjpelfcaaGreatDoorRpPlain
import Derived.Shelf.Spec.DecodeRune
import Derived.Test.YtbkhnnjjpelfcaaGreatDoorRpBulk
import Derived.Lib.IndexEntry
import Derived.Lib.Bytealg
import Derived.Laws.RangeString
import Derived.Laws.Runes
import Derived.Deep.LoopGhost
namespace Go.Proofs.YtbkhnnjjpelfcaaGreatDoor
namespace Rp
theorem cont_ge {s : ByteArray} {i k : Nat} (h : (decide (i + k < s.size) && (s.get! (i + k)).toNat / 64 == 2) = true) : i + k < s.size ∧ 128 ≤ (s.get! (i + k)).toNat ∧ (s.get! (i + k)).toNat < 192 := by
  rw [Bool.and_eq_true, decide_eq_true_eq, beq_iff_eq] at h
  omega

/-- what the decoder says behind a byte from 128 on. -/
structure Far (s : ByteArray) (r wd : Nat) : Prop where
  r0 : 128 ≤ r
  r1 : r ≤ 1114111
  w0 : 1 ≤ wd
  w1 : wd ≤ s.size
  hi : ∀ j, j < wd → 128 ≤ (s.get! j).toNat
  en : r ≠ 65533 → 2 ≤ wd ∧ wd ≤ 4 ∧ (Go.Utf8.encode (r : Int)).size = wd ∧ 128 ≤ ((Go.Utf8.encode (r : Int)).get! 0).toNat

theorem byte_of {n : Nat} (h0 : 128 ≤ n) (h1 : n ≤ 255) : 128 ≤ (UInt8.ofNat n).toNat := by
  have : (UInt8.ofNat n).toNat = n % 256 := by simp
  omega
theorem encode_two {c : Nat} (h0 : 128 ≤ c) (h1 : c < 2048) : (Go.Utf8.encode (c : Int)).size = 2 ∧ 128 ≤ ((Go.Utf8.encode (c : Int)).get! 0).toNat := by
  have hv : Go.Utf8.valid (c : Int) = true := by unfold Go.Utf8.valid; simp; omega
  unfold Go.Utf8.encode
  simp only [hv, if_true, Int.toNat_natCast]
  rw [if_neg (by omega), if_pos (by omega)]
  exact ⟨rfl, byte_of (by omega) (by omega)⟩
theorem encode_three {c : Nat} (h0 : 2048 ≤ c) (h1 : c < 65536) (hv : Go.Utf8.valid (c : Int) = true) : (Go.Utf8.encode (c : Int)).size = 3 ∧ 128 ≤ ((Go.Utf8.encode (c : Int)).get! 0).toNat := by
  unfold Go.Utf8.encode
  simp only [hv, if_true, Int.toNat_natCast]
  rw [if_neg (by omega), if_neg (by omega), if_pos (by omega)]
  exact ⟨rfl, byte_of (by omega) (by omega)⟩
theorem encode_four {c : Nat} (h0 : 65536 ≤ c) (h1 : c ≤ 1114111) (hv : Go.Utf8.valid (c : Int) = true) : (Go.Utf8.encode (c : Int)).size = 4 ∧ 128 ≤ ((Go.Utf8.encode (c : Int)).get! 0).toNat := by
  unfold Go.Utf8.encode
  simp only [hv, if_true, Int.toNat_natCast]
  rw [if_neg (by omega), if_neg (by omega), if_neg (by omega)]
  exact ⟨rfl, byte_of (by omega) (by omega)⟩

theorem far_one {s : ByteArray} (h : 0 < s.size) (hb : 128 ≤ (s.get! 0).toNat) : Far s 65533 1 :=
  ⟨by decide, by decide, by decide, h, fun j hj => by
    obtain rfl : j = 0 := (by omega)
    exact hb, fun h => absurd rfl h⟩

theorem decode_far (s : ByteArray) (h : 0 < s.size) (hb : 128 ≤ (s.get! 0).toNat) : Far s (Go.Lib.decodeGo s).1 (Go.Lib.decodeGo s).2 := by
  unfold Go.Lib.decodeGo
  rw [if_neg (by omega)]
  unfold Go.Utf8.decode
  simp only [Nat.zero_add]
  have hb2 : (s.get! 0).toNat < 256 := UInt8.toNat_lt _
  rw [if_neg (by omega)]
  split
  · rename_i hc
    rw [Bool.and_eq_true, beq_iff_eq] at hc
    have k1 := cont_ge (s := s) (i := 0) (k := 1) (by simpa using hc.2)
    simp only [Nat.zero_add] at k1
    split
    · rename_i hge
      have e := encode_two (c := (s.get! 0).toNat % 32 * 64 + (s.get! 1).toNat % 64) (by omega) (by omega)
      refine ⟨by omega, by show _ ≤ 1114111; omega, by show (1 : Nat) ≤ 2; decide, by show 2 ≤ s.size; omega, fun j hj => ?_, fun _ => ⟨Nat.le_refl _, by show (2 : Nat) ≤ 4; decide, e.1, e.2⟩⟩
      have hj2 : j = 0 ∨ j = 1 := by have : j < 2 := hj; omega
      rcases hj2 with rfl | rfl
      · exact hb
      · exact k1.2.1
    · exact far_one h hb
  · split
    · rename_i _ hc
      rw [Bool.and_eq_true, Bool.and_eq_true, beq_iff_eq] at hc
      have k1 := cont_ge (s := s) (i := 0) (k := 1) (by simpa using hc.1.2)
      have k2 := cont_ge (s := s) (i := 0) (k := 2) (by simpa using hc.2)
      simp only [Nat.zero_add] at k1 k2
      split
      · rename_i hge
        rw [Bool.and_eq_true, decide_eq_true_eq] at hge
        have e := encode_three (c := (s.get! 0).toNat % 16 * 4096 + (s.get! 1).toNat % 64 * 64 + (s.get! 2).toNat % 64) (by omega) (by omega) hge.2
        refine ⟨by omega, by show _ ≤ 1114111; omega, by show (1 : Nat) ≤ 3; decide, by show 3 ≤ s.size; omega, fun j hj => ?_, fun _ => ⟨by show (2 : Nat) ≤ 3; decide, by show (3 : Nat) ≤ 4; decide, e.1, e.2⟩⟩
        have hj2 : j = 0 ∨ j = 1 ∨ j = 2 := by have : j < 3 := hj; omega
        rcases hj2 with rfl | rfl | rfl
        · exact hb
        · exact k1.2.1
        · exact k2.2.1
      · exact far_one h hb
    · split
      · rename_i _ _ hc
        rw [Bool.and_eq_true, Bool.and_eq_true, Bool.and_eq_true, beq_iff_eq] at hc
        have k1 := cont_ge (s := s) (i := 0) (k := 1) (by simpa using hc.1.1.2)
        have k2 := cont_ge (s := s) (i := 0) (k := 2) (by simpa using hc.1.2)
        have k3 := cont_ge (s := s) (i := 0) (k := 3) (by simpa using hc.2)
        simp only [Nat.zero_add] at k1 k2 k3
        split
        · rename_i hge
          rw [Bool.and_eq_true, decide_eq_true_eq] at hge
          have hv := hge.2
          have hle : (s.get! 0).toNat % 8 * 262144 + (s.get! 1).toNat % 64 * 4096 + (s.get! 2).toNat % 64 * 64 + (s.get! 3).toNat % 64 ≤ 1114111 := by
            unfold Go.Utf8.valid at hv
            simp only [Bool.or_eq_true, Bool.and_eq_true, decide_eq_true_eq] at hv
            omega
          have e := encode_four (c := (s.get! 0).toNat % 8 * 262144 + (s.get! 1).toNat % 64 * 4096 + (s.get! 2).toNat % 64 * 64 + (s.get! 3).toNat % 64) (by omega) hle hv
          refine ⟨by omega, hle, by show (1 : Nat) ≤ 4; decide, by show 4 ≤ s.size; omega, fun j hj => ?_, fun _ => ⟨by show (2 : Nat) ≤ 4; decide, by show (4 : Nat) ≤ 4; decide, e.1, e.2⟩⟩
          have hj2 : j = 0 ∨ j = 1 ∨ j = 2 ∨ j = 3 := by have : j < 4 := hj; omega
          rcases hj2 with rfl | rfl | rfl | rfl
          · exact hb
          · exact k1.2.1
          · exact k2.2.1
          · exact k3.2.1
        · exact far_one h hb
      · exact far_one h hb
end Rp
end Go.Proofs.YtbkhnnjjpelfcaaGreatDoor
namespace Go.Proofs.YtbkhnnjjpelfcaaGreatDoor
open Go.RowKit Go.Shelf
attribute [local go_sem] Oper.semAt_some
set_option linter.unusedVariables false
set_option linter.unusedSimpArgs false

namespace Rp
theorem runL_hit : ∀ {t : List UInt8} {i : Nat}, (∀ j, j < i → t.getD j 0 ≠ 13 ∧ t.getD j 0 ≠ 10) → i < t.length → (t.getD i 0 = 13 ∨ t.getD i 0 = 10) → (runL t).length = i
  | [], i, _, h, _ => by simp at h
  | x :: t, 0, _, _, h => by
    have hx : x = 13 ∨ x = 10 := h
    unfold runL
    rw [List.takeWhile_cons]
    rcases hx with rfl | rfl <;> rfl
  | x :: t, i + 1, hp, h, hh => by
    have h0 := hp 0 (by omega)
    have hx : x ≠ 13 ∧ x ≠ 10 := h0
    have ih := runL_hit (t := t) (i := i) (fun j hj => hp (j + 1) (by omega)) (by simpa using h) hh
    unfold runL at ih ⊢
    rw [List.takeWhile_cons, if_pos (by simp [hx.1, hx.2]), List.length_cons, ih]
theorem runL_all : ∀ {t : List UInt8}, (∀ j, j < t.length → t.getD j 0 ≠ 13 ∧ t.getD j 0 ≠ 10) → (runL t).length = t.length
  | [], _ => rfl
  | x :: t, hp => by
    have h0 := hp 0 (by simp)
    have hx : x ≠ 13 ∧ x ≠ 10 := h0
    have ih := runL_all (t := t) (fun j hj => hp (j + 1) (by simpa using hj))
    unfold runL at ih ⊢
    rw [List.takeWhile_cons, if_pos (by simp [hx.1, hx.2]), List.length_cons, List.length_cons, ih]
end Rp

/-- the answer. -/
def ixV (t : List UInt8) : Int := if (Rp.runL t).length = t.length then -1 else ((Rp.runL t).length : Int)
theorem ix_hit {t : List UInt8} {i : Nat} (hp : ∀ j, j < i → t.getD j 0 ≠ 13 ∧ t.getD j 0 ≠ 10) (h : i < t.length) (hh : t.getD i 0 = 13 ∨ t.getD i 0 = 10) : ixV t = i := by
  unfold ixV
  rw [Rp.runL_hit hp h hh, if_neg (by omega)]
theorem ix_all {t : List UInt8} (hp : ∀ j, j < t.length → t.getD j 0 ≠ 13 ∧ t.getD j 0 ≠ 10) : ixV t = -1 := by
  unfold ixV
  rw [Rp.runL_all hp, if_pos rfl]

theorem ib_run (c : Int) (w : World) : (Extern.BytealgIndexByte.indexByte #[.string ⟨#[13, 10]⟩, .int .u8 c]).run Tryz.prog w = .ok (.int .i64 (if c.toNat.toUInt8 = 13 then 0 else if c.toNat.toUInt8 = 10 then 1 else -1)) w := by
  rw [Lib.run_indexByteString]
  have e : ∀ x : UInt8, Lib.indexByte [13, 10] x = (if x = 13 then 0 else if x = 10 then 1 else -1) := by
    intro x
    unfold Lib.indexByte
    by_cases h1 : x = 13
    · subst h1; rfl
    · by_cases h2 : x = 10
      · subst h2; rfl
      · rw [if_neg h1, if_neg h2]
        have h3 : ¬ (13 : UInt8) = x := fun h => h1 h.symm
        have h4 : ¬ (10 : UInt8) = x := fun h => h2 h.symm
        have h5 : Lib.indexByte [10] x = -1 := by simp [Lib.indexByte, h4]
        simp [h3, h5]
  exact congrArg (fun z => Result.ok (Value.int .i64 z) w) (e _)

theorem ib_call (c : UInt8) (y : Int) (hy : (c.toNat : Int) = y) (w : World) : (callFunc 85 #[.string ⟨#[13, 10]⟩, .int .u8 y]).run Tryz.prog w = .ok (.value (.int .i64 (if c = 13 then 0 else if c = 10 then 1 else -1))) w := by
  have hyc : y.toNat.toUInt8 = c := by rw [← hy]; simp
  rw [run_callFunc_extern Tryz.func85 (by kernel_rfl) (by kernel_rfl) (by kernel_rfl) (e := Extern.BytealgIndexByte.indexByte) (by kernel_rfl), ib_run, hyc]
  rfl

theorem get_list (l : List UInt8) (j : Nat) (h : j < l.length) : (⟨l.toArray⟩ : ByteArray).get! j = l.getD j 0 := by
  show l.toArray[j]! = l.getD j 0
  simp [List.getD, h]

theorem dec_any (t : List UInt8) (q : Nat) (hq : q < t.length) (c : UInt8) (hc : t.getD q 0 = c) (h128 : 128 ≤ c.toNat) (b off cap : Nat) (w : World) (henv : Env w) (hcell : ∀ k, k < t.length → w.cell? ⟨b, off + k, none⟩ = some (.int .u8 ((t.getD k 0).toNat : Int))) :
    ∃ r wd : Nat, Rp.Far ⟨(t.drop q).toArray⟩ r wd ∧ Calls Tryz.prog 90 #[.slice (some ⟨b, off + q, none⟩) (t.length - q) cap] w fun e w' => e = .returned (.tuple #[.int .i32 r, .int .i64 wd]) ∧ Below w.heap.size w w' := by
  have hl : (t.drop q).length = t.length - q := List.length_drop
  have hs : (⟨(t.drop q).toArray⟩ : ByteArray).size = t.length - q := by rw [← hl]; show (t.drop q).toArray.size = _; simp
  have hg : ∀ j, j < t.length - q → (⟨(t.drop q).toArray⟩ : ByteArray).get! j = t.getD (q + j) 0 := fun j hj => by
    rw [get_list _ _ (by omega)]
    simp [List.getD]
  refine ⟨_, _, Rp.decode_far ⟨(t.drop q).toArray⟩ (by omega) (by rw [hg 0 (by omega), Nat.add_zero, hc]; exact h128), ?_⟩
  have := Any7.utf8_DecodeRune Tryz.decodeRuneL ⟨(t.drop q).toArray⟩ b (off + q) cap w henv.utf (fun j hj => by
    rw [hg j (by omega), Nat.add_assoc, hcell (q + j) (by omega)])
  rw [hs] at this
  exact this

theorem is_call (x : ByteArray) (m : Int) (w : World) (hm : w.cell? ⟨0, 0, none⟩ = some (.int .i64 m)) (h3 : 3 ≤ x.size) (hx : (x.size : Int) ≤ m) : (callFunc 91 #[.string ⟨#[13, 10]⟩, .string x]).run Tryz.prog w = .ok (.value (.int .i64 (-1))) w := by
  rw [run_callFunc_extern Tryz.func91 (by kernel_rfl) (by kernel_rfl) (by kernel_rfl) (e := Extern.BytealgIndex.index) (by kernel_rfl)]
  rw [Lib.run_indexString ⟨#[13, 10]⟩ x w 0 m (by kernel_rfl) hm (by omega) hx (by decide)]
  have e := Lib.find_index ⟨#[13, 10]⟩ x (by omega)
  have h2 : (⟨#[13, 10]⟩ : ByteArray).size = 2 := rfl
  rw [h2, show 2 + 1 - x.size = 0 by omega] at e
  rw [← e]
  rfl

set_option maxRecDepth 100000 in
set_option maxHeartbeats 8000000 in
theorem ix_short (t : List UInt8) (h1 : t.length ≠ 1) (h8 : t.length ≤ 8) (S : Nat → Prop) (w : World) (a : Option Addr) (cap : Nat) (hb : Bt S w a cap t) (henv : Env w) :
    Calls Tryz.prog 69 #[.slice a t.length cap, .string ⟨#[13, 10]⟩] w fun e W' => e = .returned (.int .i64 (ixV t)) ∧ Below w.heap.size w W' := by
  have h8I : (t.length : Int) ≤ 8 := by omega
  have h1I : ((t.length : Int) == 1) = false := by rw [beq_eq_false_iff_ne]; omega
  have HBT := Lib.hid hb
  have HENV := Lib.hid henv
  clear hb henv
  go_enter Tryz.func69, Tryz.ntmps69
  go_wp2
  go_loopw [4, 11, 12] (fun r wd i wr => ∃ (q : Nat), q ≤ t.length ∧ r = .int .i64 0 ∧ (∃ W : Int, wd = .int .i64 W) ∧ i = .int .i64 (q : Int) ∧ Hid (∀ j, j < q → t.getD j 0 ≠ 13 ∧ t.getD j 0 ≠ 10) ∧ Hid (Below w.heap.size w wr)) (fun _ _ i _ => t.length + 1 - (intOf i).toNat)
  case atStart => exact ⟨0, Nat.zero_le _, rfl, ⟨0, rfl⟩, rfl, Lib.hid (fun j h => by omega), Lib.hid (Below.refl _ _)⟩
  case round =>
    obtain ⟨q, hq, rfl, ⟨wd, rfl⟩, rfl, HP, HB⟩ := hrel
    by_cases hlt : q < t.length
    · have hbt := HBT.out.later HB.out
      obtain ⟨b, off, rfl, hSb, hbl, hcell⟩ : ∃ b off, a = some ⟨b, off, none⟩ ∧ S b ∧ b < wr.heap.size ∧ ∀ k, k < t.length → wr.cell? ⟨b, off + k, none⟩ = some (.int .u8 ((t.getD k 0).toNat : Int)) := hbt.2.2.resolve_left (by intro h; subst h; simp at hlt)
      obtain ⟨c, hc⟩ : ∃ c, t.getD q 0 = c := ⟨_, rfl⟩
      obtain ⟨y, hy⟩ : ∃ y, (c.toNat : Int) = y := ⟨_, rfl⟩
      have hcq := hcell q hlt
      rw [hc, hy] at hcq
      have hyb := UInt8.toNat_lt c
      have hy0 : 0 ≤ y := by omega
      have hy1 : y ≤ 255 := by omega
      have k0 : (0 : Int) ≤ (q : Int) := by omega
      have k1 : (q : Int) < (t.length : Int) := by omega
      have HC := Lib.hid hc
      have HY := Lib.hid hy
      have HBT2 := Lib.hid hbt
      have HIB := Lib.hid (ib_call c y hy)
      have HCL := Lib.hid hcell
      clear hbt hcell hc hy
      by_cases h128 : y < 128
      · by_cases h13 : c = 13
        · have HR : Hid (ixV t = q) := Lib.hid (ix_hit HP.out hlt (by rw [HC.out]; exact .inl h13))
          have hib := HIB.out
          rw [if_pos h13] at hib
          clear h13
          go_wp2
          go_ret
          exact ⟨by rw [HR.out]; rfl, HB.out⟩
        · by_cases h10 : c = 10
          · have HR : Hid (ixV t = q) := Lib.hid (ix_hit HP.out hlt (by rw [HC.out]; exact .inr h10))
            have hib := HIB.out
            rw [if_neg h13, if_pos h10] at hib
            clear h13 h10
            go_wp2
            go_ret
            exact ⟨by rw [HR.out]; rfl, HB.out⟩
          · have hib := HIB.out
            rw [if_neg h13, if_neg h10] at hib
            have HP2 : Hid (∀ j, j < q + 1 → t.getD j 0 ≠ 13 ∧ t.getD j 0 ≠ 10) := Lib.hid (fun j hj => by
              rcases Nat.lt_or_ge j q with h | h
              · exact HP.out j h
              · obtain rfl : j = q := by omega
                rw [HC.out]; exact ⟨h13, h10⟩)
            clear h13 h10
            go_wp2
            go_roundw
            case rel => exact ⟨q + 1, by omega, rfl, ⟨1, rfl⟩, by go_num, HP2, HB⟩
            case measure => simp [intOf]; omega
      · have hcapI : (t.length : Int) ≤ (cap : Int) := by have := HBT.out.1; omega
        have hcap9 : (cap : Int) ≤ 9223372036854775807 := by have := HBT.out.2.1; omega
        obtain ⟨m, hm⟩ := (HENV.out.later HB.out).mx
        obtain ⟨r, wd2, hfar, hdec⟩ := dec_any t q hlt c HC.out (by have := HY.out; omega) b off (cap - q) wr (HENV.out.later HB.out) HCL.out
        obtain ⟨r0, r1, v0, v1, vh, ven⟩ := hfar
        have hsz : (⟨(t.drop q).toArray⟩ : ByteArray).size = t.length - q := by show (t.drop q).toArray.size = _; simp
        rw [hsz] at v1
        have HP2 : Hid (∀ j, j < q + wd2 → t.getD j 0 ≠ 13 ∧ t.getD j 0 ≠ 10) := Lib.hid (fun j hj => by
          rcases Nat.lt_or_ge j q with h | h
          · exact HP.out j h
          · have h2 := vh (j - q) (by omega)
            rw [get_list _ _ (by rw [List.length_drop]; omega)] at h2
            have e : (t.drop q).getD (j - q) 0 = t.getD j 0 := by simp [List.getD, show q + (j - q) = j by omega]
            rw [e] at h2
            constructor <;> intro h3 <;> rw [h3] at h2 <;> revert h2 <;> decide)
        have vqI : (q : Int) + (wd2 : Int) ≤ (t.length : Int) := by omega
        obtain ⟨R, hR⟩ : ∃ R : Int, (r : Int) = R := ⟨_, rfl⟩
        have hen2 : R ≠ 65533 → 2 ≤ wd2 ∧ wd2 ≤ 4 ∧ (Go.Utf8.encode R).size = wd2 ∧ 128 ≤ ((Go.Utf8.encode R).get! 0).toNat := fun h => by rw [← hR]; exact ven (by omega)
        rw [hR] at hdec
        have r0I : (128 : Int) ≤ R := by omega
        have r1I : R ≤ 1114111 := by omega
        clear hR r0 r1
        have HDEC := Lib.hid hdec
        have HEN := Lib.hid hen2
        clear hdec ven hen2 vh hsz
        have hr13 : (R == 13) = false := by rw [beq_eq_false_iff_ne]; omega
        have hr10 : (R == 10) = false := by rw [beq_eq_false_iff_ne]; omega
        go_wp2_with fail
        refine HDEC.out.mono ?_
        rintro e w2 ⟨rfl, hb2⟩
        have hm2 : w2.cell? ⟨0, 0, none⟩ = some (.int .i64 m) := (hb2.cell (p := ⟨0, 0, none⟩) (by have := (HENV.out.later HB.out).size; simp; omega)).trans hm
        have HB2 := Lib.hid (HB.out.trans (hb2.mono HB.out.size))
        have HBI : Hid (Below w.heap.size w (w2.iter ⟨#[13, 10]⟩ 2)) := Lib.hid (HB2.out.alloc HB2.out.size _)
        clear hb2 hm
        by_cases h655 : R = 65533
        · go_wp2
          go_loopg [4, 15] 2 (fun g r _ wx => ∃ p : Nat, p + g = 2 ∧ r = .int .i64 0 ∧ wx = w2.iter ⟨#[13, 10]⟩ p)
          case atStart => exact ⟨0, rfl, rfl, rfl⟩
          case round =>
            obtain ⟨p, hpg, rfl, rfl⟩ := hrel
            match p, hpg with
            | 0, hpg =>
              have hnx : ∀ ty, (Instr.next (.pointer (some ⟨w2.heap.size, 0, none⟩)) true ty).run Tryz.prog (w2.iter ⟨#[13, 10]⟩ 0) = .ok (.tuple #[.bool true, .int .i64 0, .int .i32 13]) (w2.iter ⟨#[13, 10]⟩ 1) := fun ty => run_next_ascii (P := Tryz.prog) w2 ⟨#[13, 10]⟩ 0 ty (by decide) (by decide)
              go_wp2
              go_roundg 1
              case measure => omega
              case rel => exact ⟨1, rfl, rfl, rfl⟩
            | 1, hpg =>
              have hnx : ∀ ty, (Instr.next (.pointer (some ⟨w2.heap.size, 0, none⟩)) true ty).run Tryz.prog (w2.iter ⟨#[13, 10]⟩ 1) = .ok (.tuple #[.bool true, .int .i64 1, .int .i32 10]) (w2.iter ⟨#[13, 10]⟩ 2) := fun ty => run_next_ascii (P := Tryz.prog) w2 ⟨#[13, 10]⟩ 1 ty (by decide) (by decide)
              go_wp2
              go_roundg 0
              case measure => omega
              case rel => exact ⟨2, rfl, rfl, rfl⟩
            | 2, hpg =>
              have hnx := fun ty => run_next_end (P := Tryz.prog) w2 ⟨#[13, 10]⟩ 2 ty (by decide)
              go_wp2
              go_roundw
              case rel => exact ⟨q + wd2, by omega, rfl, ⟨_, rfl⟩, by go_num, HP2, HBI⟩
              case measure => simp [intOf]; omega
            | p + 3, hpg => omega
        · obtain ⟨z2, z4, zs, zb⟩ := HEN.out h655
          have hne : (⟨#[13, 10]⟩ : ByteArray) ≠ Go.Utf8.encode R := by
            intro e
            rw [← e] at zb
            revert zb
            decide
          obtain ⟨E, hE⟩ : ∃ E, Go.Utf8.encode R = E := ⟨_, rfl⟩
          rw [hE] at hne zs
          clear zb
          have hr655 : (R == 65533) = false := by rw [beq_eq_false_iff_ne]; exact h655
          by_cases hw2 : wd2 = 2
          · subst hw2
            have hne2 : ((⟨#[13, 10]⟩ : ByteArray).toList == E.toList) = false := by
              rw [beq_eq_false_iff_ne]
              intro e
              rw [Lib.toList_data, Lib.toList_data] at e
              exact hne (ByteArray.ext (Array.ext' e))
            have hne3 : ([13, 10] == E.toList) = false := by
              rw [Lib.toList_data] at hne2
              exact hne2
            clear zs hne
            go_wp2
            go_roundw
            case rel => exact ⟨q + 2, by omega, rfl, ⟨_, rfl⟩, by go_num, HP2, HB2⟩
            case measure => simp [intOf]; omega
          · have hw2I : ((2 : Int) == (wd2 : Int)) = false := by rw [beq_eq_false_iff_ne]; omega
            by_cases hml : (wd2 : Int) ≤ m
            · have his := is_call E m w2 hm2 (by omega) (by omega)
              clear zs hne
              go_wp2
              go_roundw
              case rel => exact ⟨q + wd2, by omega, rfl, ⟨_, rfl⟩, by go_num, HP2, HB2⟩
              case measure => simp [intOf]; omega
            · clear zs hne
              go_wp2
              go_loopg [4, 15] 2 (fun g r _ wx => ∃ p : Nat, p + g = 2 ∧ r = .int .i64 0 ∧ wx = w2.iter ⟨#[13, 10]⟩ p)
              case atStart => exact ⟨0, rfl, rfl, rfl⟩
              case round =>
                obtain ⟨p, hpg, rfl, rfl⟩ := hrel
                match p, hpg with
                | 0, hpg =>
                  have hnx : ∀ ty, (Instr.next (.pointer (some ⟨w2.heap.size, 0, none⟩)) true ty).run Tryz.prog (w2.iter ⟨#[13, 10]⟩ 0) = .ok (.tuple #[.bool true, .int .i64 0, .int .i32 13]) (w2.iter ⟨#[13, 10]⟩ 1) := fun ty => run_next_ascii (P := Tryz.prog) w2 ⟨#[13, 10]⟩ 0 ty (by decide) (by decide)
                  go_wp2
                  go_roundg 1
                  case measure => omega
                  case rel => exact ⟨1, rfl, rfl, rfl⟩
                | 1, hpg =>
                  have hnx : ∀ ty, (Instr.next (.pointer (some ⟨w2.heap.size, 0, none⟩)) true ty).run Tryz.prog (w2.iter ⟨#[13, 10]⟩ 1) = .ok (.tuple #[.bool true, .int .i64 1, .int .i32 10]) (w2.iter ⟨#[13, 10]⟩ 2) := fun ty => run_next_ascii (P := Tryz.prog) w2 ⟨#[13, 10]⟩ 1 ty (by decide) (by decide)
                  go_wp2
                  go_roundg 0
                  case measure => omega
                  case rel => exact ⟨2, rfl, rfl, rfl⟩
                | 2, hpg =>
                  have hnx := fun ty => run_next_end (P := Tryz.prog) w2 ⟨#[13, 10]⟩ 2 ty (by decide)
                  go_wp2
                  go_roundw
                  case rel => exact ⟨q + wd2, by omega, rfl, ⟨_, rfl⟩, by go_num, HP2, HBI⟩
                  case measure => simp [intOf]; omega
                | p + 3, hpg => omega
    · obtain rfl : q = t.length := by omega
      have HR : Hid (ixV t = -1) := Lib.hid (ix_all HP.out)
      clear hlt hq
      go_wp2
      go_ret
      exact ⟨by rw [HR.out]; rfl, HB.out⟩
end Go.Proofs.YtbkhnnjjpelfcaaGreatDoor
namespace Go.Proofs.YtbkhnnjjpelfcaaGreatDoor
open Go.RowKit Go.Shelf
attribute [local go_sem] Oper.semAt_some
set_option linter.unusedVariables false
set_option linter.unusedSimpArgs false

set_option maxRecDepth 100000 in
set_option maxHeartbeats 8000000 in
theorem ix_one (t : List UInt8) (h1 : t.length = 1) (S : Nat → Prop) (w : World) (a : Option Addr) (cap : Nat) (hb : Bt S w a cap t) :
    Calls Tryz.prog 69 #[.slice a t.length cap, .string ⟨#[13, 10]⟩] w fun e W' => e = .returned (.int .i64 (ixV t)) ∧ Below w.heap.size w W' := by
  obtain ⟨c, rfl⟩ : ∃ c, t = [c] := by
    match t, h1 with
    | [c], _ => exact ⟨c, rfl⟩
  obtain ⟨b, off, rfl, hSb, hbl, hcell⟩ : ∃ b off, a = some ⟨b, off, none⟩ ∧ S b ∧ b < w.heap.size ∧ ∀ k, k < [c].length → w.cell? ⟨b, off + k, none⟩ = some (.int .u8 (([c].getD k 0).toNat : Int)) := hb.2.2.resolve_left (by simp)
  have hc0 := hcell 0 (by simp)
  obtain ⟨y, hy⟩ : ∃ y, (c.toNat : Int) = y := ⟨_, rfl⟩
  have hc1 : w.cell? ⟨b, off, none⟩ = some (.int .u8 y) := by rw [← hy]; exact hc0
  have hyb := UInt8.toNat_lt c
  have hy0 : 0 ≤ y := by omega
  have hy1 : y ≤ 255 := by omega
  have HIB := Lib.hid (ib_call c y hy)
  have HH := Lib.hid (fun (h : c = 13 ∨ c = 10) => ix_hit (t := [c]) (i := 0) (fun j hj => by omega) (by simp) h)
  have HA := Lib.hid (fun (h : c ≠ 13 ∧ c ≠ 10) => ix_all (t := [c]) (fun j hj => by
    obtain rfl : j = 0 := (by simpa using hj)
    exact h))
  have HY : Hid (¬ y < 128 → c ≠ 13 ∧ c ≠ 10) := Lib.hid (fun h => by
    constructor <;> intro e <;> rw [e] at hy <;> have : y ≤ 13 := (by rw [← hy]; decide) <;> omega)
  clear hcell hc0 hb hy h1
  show Calls _ _ #[.slice _ 1 cap, _] _ _
  by_cases h128 : y < 128
  · by_cases h13 : c = 13
    · have HR := Lib.hid (HH.out (.inl h13))
      have hib := HIB.out
      rw [if_pos h13] at hib
      clear h13
      go_enter Tryz.func69, Tryz.ntmps69
      go_wp2
      go_ret
      exact ⟨by rw [HR.out]; rfl, Below.refl _ _⟩
    · by_cases h10 : c = 10
      · have HR := Lib.hid (HH.out (.inr h10))
        have hib := HIB.out
        rw [if_neg h13, if_pos h10] at hib
        clear h13 h10
        go_enter Tryz.func69, Tryz.ntmps69
        go_wp2
        go_ret
        exact ⟨by rw [HR.out]; rfl, Below.refl _ _⟩
      · have HR := Lib.hid (HA.out ⟨h13, h10⟩)
        have hib := HIB.out
        rw [if_neg h13, if_neg h10] at hib
        clear h13 h10
        go_enter Tryz.func69, Tryz.ntmps69
        go_wp2
        go_ret
        exact ⟨by rw [HR.out]; rfl, Below.refl _ _⟩
  · have HR := Lib.hid (HA.out (HY.out h128))
    go_enter Tryz.func69, Tryz.ntmps69
    go_wp2
    go_loopg [4, 5] 2 (fun g r _ wx => ∃ p : Nat, p + g = 2 ∧ r = .int .i64 0 ∧ wx = w.iter ⟨#[13, 10]⟩ p)
    case atStart => exact ⟨0, rfl, rfl, rfl⟩
    case round =>
      obtain ⟨p, hpg, rfl, rfl⟩ := hrel
      match p, hpg with
      | 0, hpg =>
        have hnx : ∀ ty, (Instr.next (.pointer (some ⟨w.heap.size, 0, none⟩)) true ty).run Tryz.prog (w.iter ⟨#[13, 10]⟩ 0) = .ok (.tuple #[.bool true, .int .i64 0, .int .i32 13]) (w.iter ⟨#[13, 10]⟩ 1) := fun ty => run_next_ascii (P := Tryz.prog) w ⟨#[13, 10]⟩ 0 ty (by decide) (by decide)
        go_wp2
        go_roundg 1
        case measure => omega
        case rel => exact ⟨1, rfl, rfl, rfl⟩
      | 1, hpg =>
        have hnx : ∀ ty, (Instr.next (.pointer (some ⟨w.heap.size, 0, none⟩)) true ty).run Tryz.prog (w.iter ⟨#[13, 10]⟩ 1) = .ok (.tuple #[.bool true, .int .i64 1, .int .i32 10]) (w.iter ⟨#[13, 10]⟩ 2) := fun ty => run_next_ascii (P := Tryz.prog) w ⟨#[13, 10]⟩ 1 ty (by decide) (by decide)
        go_wp2
        go_roundg 0
        case measure => omega
        case rel => exact ⟨2, rfl, rfl, rfl⟩
      | 2, hpg =>
        have hnx := fun ty => run_next_end (P := Tryz.prog) w ⟨#[13, 10]⟩ 2 ty (by decide)
        go_wp2
        go_ret
        exact ⟨by rw [HR.out]; rfl, (Below.refl _ w).alloc (Nat.le_refl _) _⟩
      | p + 3, hpg => omega

set_option maxRecDepth 1000000 in
set_option maxHeartbeats 8000000 in
theorem ix_long (t : List UInt8) (h8 : 8 < t.length) (hl : t.length ≤ 1000000) (S : Nat → Prop) (w : World) (a : Option Addr) (cap : Nat) (hb : Bt S w a cap t) :
    Calls Tryz.prog 69 #[.slice a t.length cap, .string ⟨#[13, 10]⟩] w fun e W' => e = .returned (.int .i64 (ixV t)) ∧ Below w.heap.size w W' := by
  obtain ⟨b, off, rfl, hSb, hbl, hcell⟩ : ∃ b off, a = some ⟨b, off, none⟩ ∧ S b ∧ b < w.heap.size ∧ ∀ k, k < t.length → w.cell? ⟨b, off + k, none⟩ = some (.int .u8 ((t.getD k 0).toNat : Int)) := hb.2.2.resolve_left (by intro h; subst h; simp at h8)
  have hz := zero_of_info (P := Tryz.prog) (t := 128) (v := .agg (Array.replicate 256 (.bool false))) (n := 256) (by kernel_rfl)
  obtain ⟨hv98, hi98⟩ := hz
  have hM : Calls Tryz.prog 88 #[.string ⟨#[13, 10]⟩] w fun e w' => e = .returned (.tuple #[.agg (Lib.setCells [13, 10]), .bool true]) ∧ w' = w.alloc (.cells (Lib.setCells [13, 10]) 128) := Any.bytes_makeASCIISet Tryz.makeSetL hv98 hi98 ⟨#[13, 10]⟩ w (by decide) (fun j x hj => by
    match j, hj with
    | 0, hj => simp at hj; subst hj; decide
    | 1, hj => simp at hj; subst hj; decide)
  have hsc : (storeCells ⟨w.heap.size + 1, 0, none⟩ (Lib.setCells [13, 10]).toList 0).run Tryz.prog ((w.alloc (.cells (Lib.setCells [13, 10]) 128)).alloc (.cells (Array.replicate 256 (.bool false)) 128)) = .ok () ((w.alloc (.cells (Lib.setCells [13, 10]) 128)).alloc (.cells (Lib.setCells [13, 10]) 128)) := by
    have := run_storeCells_new (P := Tryz.prog) (w.alloc (.cells (Lib.setCells [13, 10]) 128)) 128 (Array.replicate 256 (.bool false)) (Lib.setCells [13, 10]) (by rw [Lib.setCells_size]; exact hi98) (by rw [Lib.setCells_size, Array.size_replicate]) (Lib.setCells_one _)
    simpa using this
  have hsz := Lib.setCells_size [13, 10]
  have hcellAt : ∀ x : UInt8, ((w.alloc (.cells (Lib.setCells [13, 10]) 128)).alloc (.cells (Lib.setCells [13, 10]) 128)).cell? ⟨w.heap.size + 1, x.toNat, none⟩ = some (.bool ([13, 10].contains x)) := fun x => by
    rw [World.cell?_alloc_at _ _ _ _ (by simp), Lib.setCells_at]
  have HCA := Lib.hid hcellAt
  have HCL := Lib.hid hcell
  have h8I : (8 : Int) < (t.length : Int) := by omega
  have hlI : (t.length : Int) ≤ 1000000 := by omega
  have h1I : ((t.length : Int) == 1) = false := by rw [beq_eq_false_iff_ne]; omega
  have HM := Lib.hid hM
  have HSC := Lib.hid hsc
  clear hcellAt hcell hM
  go_enter Tryz.func69, Tryz.ntmps69
  go_wp2_with (first
    | (go_at_call 88; refine HM.out.mono ?_; rintro e w' ⟨rfl, hw⟩; rw [hw])
    | go_in)
  obtain ⟨W2, hW2⟩ : ∃ W2, (w.alloc (.cells (Lib.setCells [13, 10]) 128)).alloc (.cells (Lib.setCells [13, 10]) 128) = W2 := ⟨_, rfl⟩
  have HB2 : Hid (Below w.heap.size w W2) := Lib.hid (by rw [← hW2]; exact ((Below.refl _ w).alloc (Nat.le_refl _) _).alloc (by simp) _)
  have HCA2 : Hid (∀ x : UInt8, W2.cell? ⟨w.heap.size + 1, x.toNat, none⟩ = some (.bool ([13, 10].contains x))) := Lib.hid (by rw [← hW2]; exact HCA.out)
  rw [hW2]
  clear hW2 hw hsc HCA
  go_loopg [4, 9, 10, 62] t.length (fun g r _ _ i wx => ∃ q : Nat, q + g = t.length ∧ r = .int .i64 0 ∧ i = .int .i64 (q : Int) ∧ wx = W2 ∧ Hid (∀ j, j < q → t.getD j 0 ≠ 13 ∧ t.getD j 0 ≠ 10))
  case atStart => exact ⟨0, by omega, rfl, rfl, rfl, Lib.hid (fun j h => by omega)⟩
  case round =>
    obtain ⟨q, hqg, rfl, rfl, rfl, HP⟩ := hrel
    cases gk with
    | zero =>
      obtain rfl : q = t.length := by omega
      have HR : Hid (ixV t = -1) := Lib.hid (ix_all HP.out)
      clear hqg
      go_wp2
      go_ret
      exact ⟨by rw [HR.out]; rfl, HB2.out⟩
    | succ g =>
      have hlt : q < t.length := by omega
      obtain ⟨c, hc⟩ : ∃ c, t.getD q 0 = c := ⟨_, rfl⟩
      have hcq := HB2.out.cell (p := ⟨b, off + q, none⟩) hbl
      rw [HCL.out q hlt, hc] at hcq
      have hset := HCA2.out c
      have hyb := UInt8.toNat_lt c
      have hy1 : (c.toNat : Int) < 256 := by omega
      have k0 : (0 : Int) ≤ (q : Int) := by omega
      have k1 : (q : Int) < (t.length : Int) := by omega
      have HC := Lib.hid hc
      clear hc
      by_cases hin : c = 13 ∨ c = 10
      · have HR : Hid (ixV t = q) := Lib.hid (ix_hit HP.out hlt (by rw [HC.out]; exact hin))
        have hcon : [13, 10].contains c = true := by rcases hin with rfl | rfl <;> rfl
        rw [hcon] at hset
        have HCC := Lib.hid (Any.bytes_asciiSet_contains Tryz.containsL (w.heap.size + 1) c true wr hset)
        clear hset hcon hin
        go_wp2_with (go_at_call 89; refine HCC.out.mono ?_; rintro e w' ⟨rfl, rfl⟩)
        go_ret
        exact ⟨by rw [HR.out]; rfl, HB2.out⟩
      · have h13 : c ≠ 13 := fun h => hin (.inl h)
        have h10 : c ≠ 10 := fun h => hin (.inr h)
        have hcon : [13, 10].contains c = false := by simp [h13, h10]
        rw [hcon] at hset
        have HCC := Lib.hid (Any.bytes_asciiSet_contains Tryz.containsL (w.heap.size + 1) c false wr hset)
        have HP2 : Hid (∀ j, j < q + 1 → t.getD j 0 ≠ 13 ∧ t.getD j 0 ≠ 10) := Lib.hid (fun j hj => by
          rcases Nat.lt_or_ge j q with h | h
          · exact HP.out j h
          · obtain rfl : j = q := by omega
            rw [HC.out]; exact ⟨h13, h10⟩)
        clear hset hcon hin h13 h10
        go_wp2_with (go_at_call 89; refine HCC.out.mono ?_; rintro e w' ⟨rfl, rfl⟩)
        go_roundg g
        case measure => omega
        case rel => exact ⟨q + 1, by omega, rfl, by go_num, rfl, HP2⟩

/-- bytes.IndexAny's contract, at all bytes. -/
theorem ia_any (t : List UInt8) (hl : t.length ≤ 1000000) : IA t := by
  intro S W a cap hb henv
  show Calls _ _ _ _ fun e W' => e = .returned (.int .i64 (ixV t)) ∧ Below W.heap.size W W'
  by_cases h8 : 8 < t.length
  · exact ix_long t h8 hl S W a cap hb
  · by_cases h1 : t.length = 1
    · exact ix_one t h1 S W a cap hb
    · exact ix_short t h1 (by omega) S W a cap hb henv
end Go.Proofs.YtbkhnnjjpelfcaaGreatDoor
