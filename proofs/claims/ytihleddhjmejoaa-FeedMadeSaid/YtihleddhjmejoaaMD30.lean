/- Plain mathematics of the CRC-16 of chapter 1 (one bit, one byte, many bytes): no program in it. The contracts of slot.remainder, slot.Crc, caravanref1.Crc. -/
import Derived.Test.YtihleddhjmejoaaMD06
import Derived.Test.YtihleddhjmejoaaProg
import Derived.WalkKit
import Derived.WalkLawsBesides
import Derived.WalkSpells
import Derived.WalkMore
import Derived.Lib.Hide
import Derived.Outline
import Derived.Deep.Cut
import Derived.Deep.CutRange
import Derived.Laws.BitsAllLaws
namespace Go.Proofs.Ytihleddhjmejoaa
namespace Crc16

/-- one bit of the division: the state of 16 bits, shifted by one. -/
def step (y : Nat) : Nat := (2 * y % 65536) ^^^ (if y.testBit 15 then 4129 else 0)

def steps : Nat → Nat → Nat
  | 0, y => y
  | n + 1, y => steps n (step y)

def byte (c b : Nat) : Nat := steps 8 (c ^^^ (b * 256))

def crc (l : List UInt8) : Nat := l.foldl (fun c b => byte c b.toNat) 0

def bitStep (s r : Nat) : Nat := if r / 2 ^ (16 + s) % 2 = 1 then r ^^^ (69665 * 2 ^ s) else r

def remTo : Nat → Nat → Nat
  | 0, r => r
  | n + 1, r => remTo n (bitStep n r)

theorem testBit_lt {y : Nat} (h : y < 65536) {i : Nat} (hi : 16 ≤ i) : y.testBit i = false :=
  Nat.testBit_lt_two_pow (Nat.lt_of_lt_of_le (show y < 2 ^ 16 from h) (Nat.pow_le_pow_right (by decide) hi))

theorem step_lt (y : Nat) : step y < 65536 := by
  unfold step
  refine Nat.xor_lt_two_pow (n := 16) (Nat.mod_lt _ (by decide)) ?_
  split <;> decide

theorem steps_lt (n : Nat) : ∀ y, y < 65536 → steps n y < 65536 := by
  induction n with
  | zero => intro y h; exact h
  | succ n ih => intro y _; exact ih _ (step_lt y)

theorem two_mul_xor (x y : Nat) : 2 * (x ^^^ y) = (2 * x) ^^^ (2 * y) := by
  have := Nat.shiftLeft_xor_distrib (a := x) (b := y) (i := 1)
  simpa [Nat.shiftLeft_eq, Nat.mul_comm] using this

theorem step_xor (x y : Nat) : step (x ^^^ y) = step x ^^^ step y := by
  unfold step
  rw [two_mul_xor, Nat.xor_mod_two_pow (n := 16), Nat.testBit_xor]
  have e : ∀ a b c d : Nat, a ^^^ b ^^^ (c ^^^ d) = a ^^^ c ^^^ (b ^^^ d) := by
    intro a b c d
    rw [Nat.xor_assoc, Nat.xor_assoc, ← Nat.xor_assoc b c d, Nat.xor_comm b c, Nat.xor_assoc c b d]
  rw [e]
  congr 1
  cases x.testBit 15 <;> cases y.testBit 15 <;> simp

theorem steps_xor (n : Nat) : ∀ x y, steps n (x ^^^ y) = steps n x ^^^ steps n y := by
  induction n with
  | zero => intro x y; rfl
  | succ n ih => intro x y; simp only [steps]; rw [step_xor, ih]

theorem step_zero {y : Nat} (hy : y < 65536) (h : step y = 0) : y = 0 := by
  unfold step at h
  by_cases hb : y.testBit 15
  · rw [if_pos hb] at h
    have : (2 * y % 65536 ^^^ 4129) % 2 = 0 := by rw [h]
    have h2 := Nat.xor_mod_two_pow (a := 2 * y % 65536) (b := 4129) (n := 1)
    simp only [Nat.pow_one] at h2
    rw [h2] at this
    have h3 : 2 * y % 65536 % 2 = 0 := by omega
    rw [h3] at this
    simp at this
  · rw [if_neg hb] at h
    simp only [Nat.xor_zero] at h
    have hlt : y < 32768 := by
      refine Nat.lt_of_not_le (fun hge => hb ?_)
      have : y / 2 ^ 15 % 2 = 1 := by
        have : y / 2 ^ 15 = 1 := by omega
        rw [this]
      rw [Nat.testBit_eq_decide_div_mod_eq]; simp [this]
    omega

theorem steps_zero (n : Nat) : ∀ y, y < 65536 → steps n y = 0 → y = 0 := by
  induction n with
  | zero => intro y _ h; exact h
  | succ n ih => intro y hy h; exact step_zero hy (ih _ (step_lt y) h)

theorem steps_inj {n x y : Nat} (hx : x < 65536) (hy : y < 65536) (h : steps n x = steps n y) : x = y := by
  have h0 : steps n (x ^^^ y) = 0 := by rw [steps_xor, h]; exact Nat.xor_self _
  have h1 := steps_zero n _ (Nat.xor_lt_two_pow (n := 16) hx hy) h0
  have h2 : x ^^^ (x ^^^ y) = x := by rw [h1]; simp
  rw [← Nat.xor_assoc, Nat.xor_self, Nat.zero_xor] at h2
  exact h2.symm

theorem steps_add (m n : Nat) : ∀ y, steps (m + n) y = steps n (steps m y) := by
  induction m with
  | zero => intro y; simp [steps]
  | succ m ih => intro y; rw [Nat.succ_add]; simp only [steps]; exact ih _

/-- while nothing is shifted out a step is a doubling. -/
theorem step_small {y : Nat} (h : y < 32768) : step y = 2 * y := by
  unfold step
  have hb : y.testBit 15 = false := Nat.testBit_lt_two_pow (show y < 2 ^ 15 from h)
  rw [hb]; simp; omega

theorem steps_small (n : Nat) : ∀ y, y * 2 ^ n < 65536 → steps n y = y * 2 ^ n := by
  induction n with
  | zero => intro y _; simp [steps]
  | succ n ih =>
    intro y h
    have hp : 1 ≤ 2 ^ n := Nat.one_le_two_pow
    have h1 : y < 32768 := by
      rw [Nat.pow_succ] at h
      have : y * 1 ≤ y * 2 ^ n := Nat.mul_le_mul_left _ hp
      have e : y * (2 ^ n * 2) = y * 2 ^ n * 2 := (Nat.mul_assoc _ _ _).symm
      rw [e] at h
      omega
    simp only [steps]
    rw [step_small h1]
    have e : 2 * y * 2 ^ n = y * 2 ^ (n + 1) := by rw [Nat.pow_succ]; rw [Nat.mul_comm 2 y, Nat.mul_assoc, Nat.mul_comm 2]
    rw [ih _ (by rw [e]; exact h), e]

/-- the division of the program, from the left, is so many steps. -/
theorem remTo_eq (n : Nat) : ∀ y, y < 65536 → remTo n (y * 2 ^ n) = steps n y := by
  induction n with
  | zero => intro y _; simp [remTo, steps]
  | succ n ih =>
    intro y hy
    simp only [remTo, steps]
    have hb : bitStep n (y * 2 ^ (n + 1)) = step y * 2 ^ n := by
      have e1 : y * 2 ^ (n + 1) / 2 ^ (16 + n) = y / 32768 := by
        have : (2 : Nat) ^ (16 + n) = 2 ^ (n + 1) * 32768 := by
          rw [show 16 + n = (n + 1) + 15 from by omega, Nat.pow_add]
        rw [this, ← Nat.div_div_eq_div_mul, Nat.mul_div_cancel _ (Nat.two_pow_pos _)]
      have e2 : y * 2 ^ (n + 1) = (2 * y) * 2 ^ n := by rw [Nat.pow_succ, Nat.mul_comm 2 y, Nat.mul_assoc, Nat.mul_comm 2]
      have hx : ∀ a b : Nat, (a * 2 ^ n) ^^^ (b * 2 ^ n) = (a ^^^ b) * 2 ^ n := by
        intro a b
        have := Nat.shiftLeft_xor_distrib (a := a) (b := b) (i := n)
        simpa [Nat.shiftLeft_eq] using this.symm
      unfold bitStep
      rw [e1, e2]
      by_cases h : y < 32768
      · have h0 : y / 32768 % 2 = 0 := by omega
        rw [if_neg (by omega), step_small h]
      · have h0 : y / 32768 % 2 = 1 := by omega
        rw [if_pos h0, hx]
        congr 1
        unfold step
        have hb : y.testBit 15 = true := by
          rw [Nat.testBit_eq_decide_div_mod_eq]
          have : y / 2 ^ 15 % 2 = 1 := h0
          simp [this]
        rw [hb]
        simp only [if_true]
        have h1 := Nat.xor_mod_two_pow (a := 2 * y) (b := 69665) (n := 16)
        have h2 := Nat.xor_div_two_pow (a := 2 * y) (b := 69665) (n := 16)
        have h3 : 2 * y / 2 ^ 16 = 1 := by omega
        rw [h3] at h2
        have h4 : (1 : Nat) ^^^ 69665 / 2 ^ 16 = 0 := by decide
        rw [h4] at h2
        have h5 : (69665 : Nat) % 2 ^ 16 = 4129 := by decide
        rw [h5] at h1
        have h6 : (2 : Nat) ^ 16 = 65536 := by decide
        rw [h6] at h1 h2
        omega
    rw [hb]
    exact ih _ (step_lt y)


theorem bitStep_small {s r : Nat} (h : r < 65536) : bitStep s r = r := by
  have e : r / 2 ^ (16 + s) = 0 := by
    refine Nat.div_eq_of_lt (Nat.lt_of_lt_of_le h ?_)
    exact Nat.le_trans (show 65536 ≤ 2 ^ 16 by decide) (Nat.pow_le_pow_right (by decide) (by omega))
  unfold bitStep
  rw [e, if_neg (by decide)]

theorem remTo_small (n : Nat) : ∀ r, r < 65536 → remTo n r = r := by
  induction n with
  | zero => intro r _; rfl
  | succ n ih => intro r h; simp only [remTo]; rw [bitStep_small h]; exact ih r h

theorem poly_lt {s : Nat} (h : s ≤ 7) : 69665 * 2 ^ s < 16777216 := by
  have : 2 ^ s ≤ 2 ^ 7 := Nat.pow_le_pow_right (by decide) h
  omega

theorem bitStep_lt {s r : Nat} (hs : s ≤ 7) (h : r < 16777216) : bitStep s r < 16777216 := by
  unfold bitStep
  split
  · exact Nat.xor_lt_two_pow (n := 24) h (poly_lt hs)
  · exact h

theorem byte_eq (c b : Nat) (hc : c < 65536) (hb : b < 256) : remTo 8 ((c * 256) ^^^ (b * 65536)) = byte c b := by
  have e : (c * 256) ^^^ (b * 65536) = (c ^^^ (b * 256)) * 2 ^ 8 := by
    have := Nat.shiftLeft_xor_distrib (a := c) (b := b * 256) (i := 8)
    simp only [Nat.shiftLeft_eq] at this
    rw [this, Nat.mul_assoc]
  rw [e]
  exact remTo_eq 8 _ (Nat.xor_lt_two_pow (n := 16) hc (show b * 256 < 2 ^ 16 by omega))

theorem byte_lt (c b : Nat) (hc : c < 65536) (hb : b < 256) : byte c b < 65536 :=
  steps_lt 8 _ (Nat.xor_lt_two_pow (n := 16) hc (show b * 256 < 2 ^ 16 by omega))

theorem crc_snoc (l : List UInt8) (b : UInt8) : crc (l ++ [b]) = byte (crc l) b.toNat := by
  simp [crc, List.foldl_append]

theorem fold_lt (l : List UInt8) : ∀ c, c < 65536 → l.foldl (fun c b => byte c b.toNat) c < 65536 := by
  induction l with
  | nil => intro c h; exact h
  | cons b l ih => intro c h; exact ih _ (byte_lt _ _ h b.toNat_lt)

theorem crc_lt (l : List UInt8) : crc l < 65536 := fold_lt l 0 (by decide)

theorem byte_inj {c d b : Nat} (hc : c < 65536) (hd : d < 65536) (hb : b < 256) (h : byte c b = byte d b) : c = d := by
  have hb' : b * 256 < 2 ^ 16 := by omega
  have h1 := steps_inj (Nat.xor_lt_two_pow (n := 16) hc hb') (Nat.xor_lt_two_pow (n := 16) hd hb') h
  have h2 : c ^^^ (b * 256) ^^^ (b * 256) = d ^^^ (b * 256) ^^^ (b * 256) := by rw [h1]
  simpa [Nat.xor_assoc] using h2

theorem fold_inj (l : List UInt8) : ∀ c d, c < 65536 → d < 65536 → l.foldl (fun c b => byte c b.toNat) c = l.foldl (fun c b => byte c b.toNat) d → c = d := by
  induction l with
  | nil => intro c d _ _ h; exact h
  | cons b l ih =>
    intro c d hc hd h
    exact byte_inj hc hd b.toNat_lt (ih _ _ (byte_lt _ _ hc b.toNat_lt) (byte_lt _ _ hd b.toNat_lt) h)

theorem two_bytes (c x y : Nat) (hy : y < 256) : byte (byte c x) y = steps 16 (c ^^^ (x * 256 + y)) := by
  have e1 : x * 256 + y = (x * 256) ^^^ y := by
    have := Nat.two_pow_add_eq_or_of_lt (i := 8) (show y < 2 ^ 8 from hy) x
    have h2 : (x * 256) ^^^ y = 2 ^ 8 * x ||| y := by
      rw [Nat.mul_comm x 256]
      apply Nat.eq_of_testBit_eq
      intro i
      rw [Nat.testBit_xor, Nat.testBit_or, show (256 : Nat) = 2 ^ 8 from rfl]
      by_cases hi : i < 8
      · have : (2 ^ 8 * x).testBit i = false := by
          rw [Nat.testBit_two_pow_mul]; simp; omega
        rw [this]; simp
      · have : y.testBit i = false := Nat.testBit_lt_two_pow (Nat.lt_of_lt_of_le (show y < 2 ^ 8 from hy) (Nat.pow_le_pow_right (by decide) (by omega)))
        rw [this]; simp
    rw [h2, ← this]; omega
  rw [e1, ← Nat.xor_assoc]
  unfold byte
  rw [show (16 : Nat) = 8 + 8 from rfl, steps_add, steps_xor 8 (c ^^^ x * 256) y, steps_small 8 y (by omega)]

/-- two bytes side by side that are turned turn the sum. -/
theorem two_turned (c x y h l : Nat) (hc : c < 65536) (hx : x < 256) (hy : y < 256) (hh : h < 256) (hl : l < 256) (hne : h ≠ 0 ∨ l ≠ 0) :
    byte (byte c x) y ≠ byte (byte c (x ^^^ h)) (y ^^^ l) := by
  intro e
  have hx' : x ^^^ h < 256 := Nat.xor_lt_two_pow (n := 8) hx hh
  have hy' : y ^^^ l < 256 := Nat.xor_lt_two_pow (n := 8) hy hl
  rw [two_bytes _ _ _ hy, two_bytes _ _ _ hy'] at e
  have h1 := steps_inj (Nat.xor_lt_two_pow (n := 16) hc (show x * 256 + y < 2 ^ 16 by omega)) (Nat.xor_lt_two_pow (n := 16) hc (show (x ^^^ h) * 256 + (y ^^^ l) < 2 ^ 16 by omega)) e
  have h2 : x * 256 + y = (x ^^^ h) * 256 + (y ^^^ l) := by
    have : c ^^^ (c ^^^ (x * 256 + y)) = c ^^^ (c ^^^ ((x ^^^ h) * 256 + (y ^^^ l))) := by rw [h1]
    simpa [← Nat.xor_assoc] using this
  have hxe : x = x ^^^ h := by omega
  have hye : y = y ^^^ l := by omega
  have g : ∀ a b : Nat, a = a ^^^ b → b = 0 := by
    intro a b hab
    have : a ^^^ a = a ^^^ (a ^^^ b) := by rw [← hab]
    rw [← Nat.xor_assoc, Nat.xor_self, Nat.zero_xor] at this
    exact this.symm
  rcases hne with hz | hz
  · exact hz (g _ _ hxe)
  · exact hz (g _ _ hye)

/-- one bit of the reference's way: shifted first, then cut. -/
theorem step_ref (y : Nat) (hy : y < 65536) : step y = if 65536 ≤ 2 * y then (2 * y ^^^ 4129) &&& 65535 else 2 * y := by
  by_cases h : y < 32768
  · rw [step_small h, if_neg (by omega)]
  · rw [if_pos (by omega)]
    have hb : y.testBit 15 = true := by
      rw [Nat.testBit_eq_decide_div_mod_eq]
      have : y / 2 ^ 15 % 2 = 1 := by omega
      simp [this]
    unfold step
    rw [hb, if_pos rfl]
    have := Nat.and_two_pow_sub_one_eq_mod (2 * y ^^^ 4129) 16
    rw [show (2 : Nat) ^ 16 - 1 = 65535 from rfl] at this
    rw [this, Nat.xor_mod_two_pow]

theorem ofNat_xor {x h : Nat} (hx : x < 256) (hh : h < 256) : (UInt8.ofNat (x ^^^ h)).toNat = x ^^^ h := by
  have : x ^^^ h < 2 ^ 8 := Nat.xor_lt_two_pow hx hh
  rw [UInt8.toNat_ofNat']
  exact Nat.mod_eq_of_lt this

/-- the same bytes, two of them side by side turned. -/
def turned (l : List UInt8) (k h m : Nat) : List UInt8 :=
  (l.set k (UInt8.ofNat ((l.getD k 0).toNat ^^^ h))).set (k + 1) (UInt8.ofNat ((l.getD (k + 1) 0).toNat ^^^ m))

theorem parts {l : List UInt8} {k : Nat} (hk : k + 1 < l.length) : l = l.take k ++ l.getD k 0 :: l.getD (k + 1) 0 :: l.drop (k + 2) := by
  have e1 : l.getD k 0 = l[k] := by
    have : k < l.length := by omega
    simp [List.getD, this]
  have e2 : l.getD (k + 1) 0 = l[k + 1] := by simp [List.getD, hk]
  rw [e1, e2, List.getElem_cons_drop, List.getElem_cons_drop, List.take_append_drop]

theorem turned_parts {l : List UInt8} {k : Nat} (hk : k + 1 < l.length) (h m : Nat) :
    turned l k h m = l.take k ++ UInt8.ofNat ((l.getD k 0).toNat ^^^ h) :: UInt8.ofNat ((l.getD (k + 1) 0).toNat ^^^ m) :: l.drop (k + 2) := by
  unfold turned
  generalize UInt8.ofNat ((l.getD k 0).toNat ^^^ h) = a
  generalize UInt8.ofNat ((l.getD (k + 1) 0).toNat ^^^ m) = b
  apply List.ext_getElem?
  intro i
  rw [List.getElem?_set, List.getElem?_set]
  by_cases h1 : k + 1 = i
  · subst h1
    rw [List.getElem?_append_right (by simp; omega)]
    have : min k l.length = k := by omega
    simp [this, hk]
  · rw [if_neg h1]
    by_cases h2 : k = i
    · subst h2
      have hk2 : k < l.length := by omega
      rw [List.getElem?_append_right (by simp; omega)]
      have : min k l.length = k := by omega
      simp [this, hk2]
    · rw [if_neg h2]
      by_cases h3 : i < k
      · rw [List.getElem?_append_left (by simp; omega), List.getElem?_take]
        simp [h3]
      · rw [List.getElem?_append_right (by simp; omega)]
        have : min k l.length = k := by omega
        have e : i - (l.take k).length = (i - k - 2) + 2 := by simp [this]; omega
        rw [e]
        simp
        congr 1
        omega

theorem crc_turned {l : List UInt8} {k h m : Nat} (hk : k + 1 < l.length) (hh : h < 256) (hm : m < 256) (hne : h ≠ 0 ∨ m ≠ 0) : crc l ≠ crc (turned l k h m) := by
  intro e
  rw [turned_parts hk] at e
  have e1 : crc l = crc (l.take k ++ l.getD k 0 :: l.getD (k + 1) 0 :: l.drop (k + 2)) := by rw [← parts hk]
  rw [e1] at e
  generalize l.getD k 0 = x at e
  generalize l.getD (k + 1) 0 = y at e
  unfold crc at e
  rw [List.foldl_append, List.foldl_append] at e
  simp only [List.foldl_cons] at e
  have hc : (l.take k).foldl (fun c b => byte c b.toNat) 0 < 65536 := fold_lt _ 0 (by decide)
  generalize (l.take k).foldl (fun c b => byte c b.toNat) 0 = c at e hc
  rw [ofNat_xor (UInt8.toNat_lt x) hh, ofNat_xor (UInt8.toNat_lt y) hm] at e
  have hx' : x.toNat ^^^ h < 256 := Nat.xor_lt_two_pow (n := 8) (UInt8.toNat_lt x) hh
  have hy' : y.toNat ^^^ m < 256 := Nat.xor_lt_two_pow (n := 8) (UInt8.toNat_lt y) hm
  have := fold_inj _ _ _ (byte_lt _ _ (byte_lt _ _ hc (UInt8.toNat_lt x)) (UInt8.toNat_lt y)) (byte_lt _ _ (byte_lt _ _ hc hx') hy') e
  exact two_turned c x.toNat y.toNat h m hc (UInt8.toNat_lt x) (UInt8.toNat_lt y) hh hm hne this

theorem mask1 (x : Nat) : x &&& 1 = x % 2 := Nat.and_two_pow_sub_one_eq_mod x 1

end Crc16
end Go.Proofs.Ytihleddhjmejoaa
namespace Go.Proofs.Ytihleddhjmejoaa
open Go.RowKit

theorem i64_xor_nat (a b : Nat) (ha : a < 9223372036854775808) (hb : b < 9223372036854775808) : bits .xor .i64 (a : Int) (b : Int) = ((a ^^^ b : Nat) : Int) := by
  have hx : a ^^^ b < 2 ^ 63 := Nat.xor_lt_two_pow ha hb
  have h1 : (BitVec.ofInt 64 (a : Int)).toNat = a := by
    rw [BitVec.ofInt_natCast, BitVec.toNat_ofNat]; exact Nat.mod_eq_of_lt (by omega)
  have h2 : (BitVec.ofInt 64 (b : Int)).toNat = b := by
    rw [BitVec.ofInt_natCast, BitVec.toNat_ofNat]; exact Nat.mod_eq_of_lt (by omega)
  show IntKind.i64.wrap ((BitVec.ofInt 64 (a : Int) ^^^ BitVec.ofInt 64 (b : Int)).toNat : Int) = _
  rw [BitVec.toNat_xor, h1, h2, IntKind.wrap_i64]
  omega

theorem i64_and_nat (a b : Nat) (ha : a < 9223372036854775808) (hb : b < 9223372036854775808) : bits .and .i64 (a : Int) (b : Int) = ((a &&& b : Nat) : Int) := by
  have hx : a &&& b < 2 ^ 63 := Nat.and_lt_two_pow _ hb
  have h1 : (BitVec.ofInt 64 (a : Int)).toNat = a := by
    rw [BitVec.ofInt_natCast, BitVec.toNat_ofNat]; exact Nat.mod_eq_of_lt (by omega)
  have h2 : (BitVec.ofInt 64 (b : Int)).toNat = b := by
    rw [BitVec.ofInt_natCast, BitVec.toNat_ofNat]; exact Nat.mod_eq_of_lt (by omega)
  show IntKind.i64.wrap ((BitVec.ofInt 64 (a : Int) &&& BitVec.ofInt 64 (b : Int)).toNat : Int) = _
  rw [BitVec.toNat_and, h1, h2, IntKind.wrap_i64]
  omega

theorem ret_int {k : IntKind} {a b : Int} (h : a = b) : Ending.returned (.int k a) = .returned (.int k b) := by rw [h]

theorem pow_cast (m x : Nat) : ((x : Int) / 2 ^ (16 + m)) = ((x / 2 ^ (16 + m) : Nat) : Int) := by
  rw [Int.natCast_ediv]; congr 1

theorem shl_cast (m : Nat) (hm : m ≤ 7) : ((69665 : Int) * 2 ^ m % 4294967296) = ((69665 * 2 ^ m : Nat) : Int) := by
  have h := Crc16.poly_lt hm
  have e : ((69665 : Int) * 2 ^ m) = ((69665 * 2 ^ m : Nat) : Int) := by rw [Int.natCast_mul]; congr 1
  rw [e]; omega

theorem and1_cast (x : Nat) (hx : x < 16777216) (m : Nat) : bits .and .u32 ((x : Int) / 2 ^ (16 + m)) 1 = ((x / 2 ^ (16 + m) % 2 : Nat) : Int) := by
  have h1 : x / 2 ^ (16 + m) ≤ x := Nat.div_le_self _ _
  have := u32_and_nat (x / 2 ^ (16 + m)) 1 (by omega) (by decide)
  rw [pow_cast, ← Crc16.mask1]
  exact this

theorem xor_cast (x m : Nat) (hx : x < 16777216) (hm : m ≤ 7) : bits .xor .u32 (x : Int) (69665 * 2 ^ m % 4294967296) = ((x ^^^ (69665 * 2 ^ m) : Nat) : Int) := by
  rw [shl_cast m hm]
  have h := Crc16.poly_lt hm
  exact u32_xor_nat _ _ (by omega) (by omega)

-- left out: rem_walk
-- left out: crc_none
theorem byte_cast (c x : Nat) (hc : c < 65536) (hx : x < 256) : bits .xor .u32 ((c : Int) * 256) ((x : Int) * 65536) = (((c * 256) ^^^ (x * 65536) : Nat) : Int) := by
  have e1 : ((c : Int) * 256) = ((c * 256 : Nat) : Int) := by omega
  have e2 : ((x : Int) * 65536) = ((x * 65536 : Nat) : Int) := by omega
  rw [e1, e2]
  exact u32_xor_nat _ _ (by omega) (by omega)

theorem xor_lt24 (c x : Nat) (hc : c < 65536) (hx : x < 256) : (c * 256) ^^^ (x * 65536) < 16777216 :=
  Nat.xor_lt_two_pow (n := 24) (by omega) (by omega)

theorem take_snoc (l : List UInt8) (k : Nat) (h : k < l.length) : l.take (k + 1) = l.take k ++ [l.getD k 0] := by
  rw [List.take_succ_eq_append_getElem h]; simp [List.getD, h]

-- left out: crc_some
-- left out: crc_any
theorem sl_cast (c x : Nat) (hc : c < 65536) (hx : x < 256) : bits .xor .i64 (c : Int) ((x : Int) * 256) = ((c ^^^ (x * 256) : Nat) : Int) := by
  have e2 : ((x : Int) * 256) = ((x * 256 : Nat) : Int) := by omega
  rw [e2]
  exact i64_xor_nat _ _ (by omega) (by omega)

-- left out: refCrc_walk
end Go.Proofs.Ytihleddhjmejoaa
