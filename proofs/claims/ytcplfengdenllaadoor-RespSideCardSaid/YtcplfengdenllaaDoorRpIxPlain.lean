/- What Go's decoder says of bytes from 128 on: none of them is a line's end, and what it tells is none. No program in it. -/
import Derived.Test.YtcplfengdenllaaDoorRpPlain
import Derived.Shelf.Spec.DecodeRune
namespace Go.Proofs.YtcplfengdenllaaDoor
namespace Rp
theorem cont_ge {s : ByteArray} {i k : Nat} (h : (decide (i + k < s.size) && (s.get! (i + k)).toNat / 64 == 2) = true) : i + k < s.size ∧ 128 ≤ (s.get! (i + k)).toNat ∧ (s.get! (i + k)).toNat < 192 := by
  rw [Bool.and_eq_true, decide_eq_true_eq, beq_iff_eq] at h
  omega

/-- what the decoder says behind a byte from 128 on. -/
structure Far (s : ByteArray) (r wd : Nat) : Prop where
  r0 : 128 ≤ r
  r1 : r ≤ 1114111
  w0 : 1 ≤ wd
  w1 : wd ≤ s.size
  hi : ∀ j, j < wd → 128 ≤ (s.get! j).toNat
  en : r ≠ 65533 → 2 ≤ wd ∧ wd ≤ 4 ∧ (Go.Utf8.encode (r : Int)).size = wd ∧ 128 ≤ ((Go.Utf8.encode (r : Int)).get! 0).toNat

theorem byte_of {n : Nat} (h0 : 128 ≤ n) (h1 : n ≤ 255) : 128 ≤ (UInt8.ofNat n).toNat := by
  have : (UInt8.ofNat n).toNat = n % 256 := by simp
  omega
theorem encode_two {c : Nat} (h0 : 128 ≤ c) (h1 : c < 2048) : (Go.Utf8.encode (c : Int)).size = 2 ∧ 128 ≤ ((Go.Utf8.encode (c : Int)).get! 0).toNat := by
  have hv : Go.Utf8.valid (c : Int) = true := by unfold Go.Utf8.valid; simp; omega
  unfold Go.Utf8.encode
  simp only [hv, if_true, Int.toNat_natCast]
  rw [if_neg (by omega), if_pos (by omega)]
  exact ⟨rfl, byte_of (by omega) (by omega)⟩
theorem encode_three {c : Nat} (h0 : 2048 ≤ c) (h1 : c < 65536) (hv : Go.Utf8.valid (c : Int) = true) : (Go.Utf8.encode (c : Int)).size = 3 ∧ 128 ≤ ((Go.Utf8.encode (c : Int)).get! 0).toNat := by
  unfold Go.Utf8.encode
  simp only [hv, if_true, Int.toNat_natCast]
  rw [if_neg (by omega), if_neg (by omega), if_pos (by omega)]
  exact ⟨rfl, byte_of (by omega) (by omega)⟩
theorem encode_four {c : Nat} (h0 : 65536 ≤ c) (h1 : c ≤ 1114111) (hv : Go.Utf8.valid (c : Int) = true) : (Go.Utf8.encode (c : Int)).size = 4 ∧ 128 ≤ ((Go.Utf8.encode (c : Int)).get! 0).toNat := by
  unfold Go.Utf8.encode
  simp only [hv, if_true, Int.toNat_natCast]
  rw [if_neg (by omega), if_neg (by omega), if_neg (by omega)]
  exact ⟨rfl, byte_of (by omega) (by omega)⟩

theorem far_one {s : ByteArray} (h : 0 < s.size) (hb : 128 ≤ (s.get! 0).toNat) : Far s 65533 1 :=
  ⟨by decide, by decide, by decide, h, fun j hj => by
    obtain rfl : j = 0 := (by omega)
    exact hb, fun h => absurd rfl h⟩

theorem decode_far (s : ByteArray) (h : 0 < s.size) (hb : 128 ≤ (s.get! 0).toNat) : Far s (Go.Lib.decodeGo s).1 (Go.Lib.decodeGo s).2 := by
  unfold Go.Lib.decodeGo
  rw [if_neg (by omega)]
  unfold Go.Utf8.decode
  simp only [Nat.zero_add]
  have hb2 : (s.get! 0).toNat < 256 := UInt8.toNat_lt _
  rw [if_neg (by omega)]
  split
  · rename_i hc
    rw [Bool.and_eq_true, beq_iff_eq] at hc
    have k1 := cont_ge (s := s) (i := 0) (k := 1) (by simpa using hc.2)
    simp only [Nat.zero_add] at k1
    split
    · rename_i hge
      have e := encode_two (c := (s.get! 0).toNat % 32 * 64 + (s.get! 1).toNat % 64) (by omega) (by omega)
      refine ⟨by omega, by show _ ≤ 1114111; omega, by show (1 : Nat) ≤ 2; decide, by show 2 ≤ s.size; omega, fun j hj => ?_, fun _ => ⟨Nat.le_refl _, by show (2 : Nat) ≤ 4; decide, e.1, e.2⟩⟩
      have hj2 : j = 0 ∨ j = 1 := by have : j < 2 := hj; omega
      rcases hj2 with rfl | rfl
      · exact hb
      · exact k1.2.1
    · exact far_one h hb
  · split
    · rename_i _ hc
      rw [Bool.and_eq_true, Bool.and_eq_true, beq_iff_eq] at hc
      have k1 := cont_ge (s := s) (i := 0) (k := 1) (by simpa using hc.1.2)
      have k2 := cont_ge (s := s) (i := 0) (k := 2) (by simpa using hc.2)
      simp only [Nat.zero_add] at k1 k2
      split
      · rename_i hge
        rw [Bool.and_eq_true, decide_eq_true_eq] at hge
        have e := encode_three (c := (s.get! 0).toNat % 16 * 4096 + (s.get! 1).toNat % 64 * 64 + (s.get! 2).toNat % 64) (by omega) (by omega) hge.2
        refine ⟨by omega, by show _ ≤ 1114111; omega, by show (1 : Nat) ≤ 3; decide, by show 3 ≤ s.size; omega, fun j hj => ?_, fun _ => ⟨by show (2 : Nat) ≤ 3; decide, by show (3 : Nat) ≤ 4; decide, e.1, e.2⟩⟩
        have hj2 : j = 0 ∨ j = 1 ∨ j = 2 := by have : j < 3 := hj; omega
        rcases hj2 with rfl | rfl | rfl
        · exact hb
        · exact k1.2.1
        · exact k2.2.1
      · exact far_one h hb
    · split
      · rename_i _ _ hc
        rw [Bool.and_eq_true, Bool.and_eq_true, Bool.and_eq_true, beq_iff_eq] at hc
        have k1 := cont_ge (s := s) (i := 0) (k := 1) (by simpa using hc.1.1.2)
        have k2 := cont_ge (s := s) (i := 0) (k := 2) (by simpa using hc.1.2)
        have k3 := cont_ge (s := s) (i := 0) (k := 3) (by simpa using hc.2)
        simp only [Nat.zero_add] at k1 k2 k3
        split
        · rename_i hge
          rw [Bool.and_eq_true, decide_eq_true_eq] at hge
          have hv := hge.2
          have hle : (s.get! 0).toNat % 8 * 262144 + (s.get! 1).toNat % 64 * 4096 + (s.get! 2).toNat % 64 * 64 + (s.get! 3).toNat % 64 ≤ 1114111 := by
            unfold Go.Utf8.valid at hv
            simp only [Bool.or_eq_true, Bool.and_eq_true, decide_eq_true_eq] at hv
            omega
          have e := encode_four (c := (s.get! 0).toNat % 8 * 262144 + (s.get! 1).toNat % 64 * 4096 + (s.get! 2).toNat % 64 * 64 + (s.get! 3).toNat % 64) (by omega) hle hv
          refine ⟨by omega, hle, by show (1 : Nat) ≤ 4; decide, by show 4 ≤ s.size; omega, fun j hj => ?_, fun _ => ⟨by show (2 : Nat) ≤ 4; decide, by show (4 : Nat) ≤ 4; decide, e.1, e.2⟩⟩
          have hj2 : j = 0 ∨ j = 1 ∨ j = 2 ∨ j = 3 := by have : j < 4 := hj; omega
          rcases hj2 with rfl | rfl | rfl | rfl
          · exact hb
          · exact k1.2.1
          · exact k2.2.1
          · exact k3.2.1
        · exact far_one h hb
      · exact far_one h hb
end Rp
end Go.Proofs.YtcplfengdenllaaDoor
