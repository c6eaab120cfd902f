/- The contract of the reference's Digits. -/
import Derived.Test.YtahmddopbmjepaaDoorProg
import Derived.Test.YtahmddopbmjepaaDoorRA01
import Derived.WalkKit
import Derived.WalkLawsBesides
import Derived.WalkSpells
import Derived.Lib.Hide
import Derived.Outline
import Derived.Below
import Derived.Laws.IdiomStrings
namespace Go.Proofs.YtahmddopbmjepaaDoor
open Go.RowKit

theorem conv1 (w : World) (x : Int) :
    (convert 50 9 (.slice (some ⟨w.heap.size, 0, none⟩) 1 1)).run Tryd.prog (w.alloc (.cells #[.int .u8 x] 5)) = .ok (.string ⟨#[UInt8.ofNat x.toNat]⟩) (w.alloc (.cells #[.int .u8 x] 5)) := by
  rw [run_convert_bytes_string _ _ _ _ _ _ _ Tryd.underlying50 Tryd.underlying5 Tryd.underlying9]
  have hl := run_loadCells_list (P := Tryd.prog) (w.alloc (.cells #[.int .u8 x] 5)) ⟨w.heap.size, 0, none⟩ ([x].map (Value.int .u8)) (fun j v hj => by
    match j, hj with
    | 0, hj =>
      simp at hj
      subst hj
      simp [Addr.add])
  simp only [List.length_map, List.length_cons, List.length_nil] at hl
  rw [run_bytesToString _ _ _ _ [x] hl]
  rfl

theorem str_cons (b : UInt8) (t : List UInt8) : (⟨#[b]⟩ : ByteArray) ++ ⟨t.toArray⟩ = ⟨(b :: t).toArray⟩ := by
  apply ByteArray.ext
  simp

set_option maxHeartbeats 1000000 in
theorem digits_pos (m0 : Nat) (w : World) (h : m0 ≤ 9223372036854775807) :
    Calls Tryd.prog 21 #[.int .i64 (m0 : Int)] w fun e w' => e = .returned (.string ⟨(Dig.digs m0).toArray⟩) ∧ Below w.heap.size w w' := by
  have kc := conv1
  go_enter Tryd.func21, Tryd.ntmps21
  go_wp2_with fail
  go_loopw [3, 4] (fun u s wr => ∃ (m : Nat) (t : List UInt8), m ≤ m0 ∧ u = .int .u64 (m : Int) ∧ s = .string ⟨t.toArray⟩ ∧ Hid (Dig.digs m ++ t = Dig.digs m0) ∧ Hid (Below w.heap.size w wr)) (fun u _ _ => (intOf u).toNat)
  case atStart => exact ⟨m0, [], Nat.le_refl _, rfl, rfl, Lib.hid (by simp), Lib.hid (Below.refl _ _)⟩
  case round =>
    obtain ⟨m, t, hm, rfl, rfl, HT, HB⟩ := hrel
    have htl : t.length ≤ 19 := by
      have := congrArg List.length HT.out
      have h2 := Dig.digs_len20 (u := m0) (by omega)
      rw [List.length_append] at this
      omega
    by_cases hge : 10 ≤ m
    · have hst : Dig.digs (m / 10) ++ (UInt8.ofNat (48 + m % 10) :: t) = Dig.digs m0 := by
        rw [← HT.out, Dig.digs_step (u := m) (by omega)]; simp
      have HT2 := Lib.hid hst
      clear hst
      go_wp2
      go_roundw
      case rel =>
        refine ⟨m / 10, UInt8.ofNat (48 + m % 10) :: t, by omega, by go_num, ?_, HT2, Lib.hid (HB.out.alloc HB.out.size _)⟩
        rw [show (48 : UInt8) + UInt8.ofNat (m % 10) = UInt8.ofNat (48 + m % 10) from by simp, str_cons]
      case measure => simp [intOf]; omega
    · have hst : UInt8.ofNat (48 + m) :: t = Dig.digs m0 := by
        rw [← HT.out, Dig.digs_small (u := m) (by omega)]; rfl
      have HT2 := Lib.hid hst
      clear hst
      go_wp2
      go_ret
      refine ⟨?_, HB.out.alloc HB.out.size _⟩
      rw [← HT2.out, ← str_cons, show UInt8.ofNat (48 + m) = (48 : UInt8) + UInt8.ofNat m from by simp]
      rfl

set_option maxHeartbeats 1000000 in
theorem digits_neg (n : Int) (w : World) (h : n < 0) (h2 : -9223372036854775808 ≤ n) :
    Calls Tryd.prog 21 #[.int .i64 n] w fun e w' => e = .returned (.string ⟨(Dig.dec n).toArray⟩) ∧ Below w.heap.size w w' := by
  have kc := conv1
  go_enter Tryd.func21, Tryd.ntmps21
  obtain ⟨m0, hm0⟩ : ∃ m0 : Nat, (-n).toNat = m0 := ⟨_, rfl⟩
  have hm1 : m0 ≤ 9223372036854775808 := by omega
  have hM : Hid (IntKind.u64.wrap (-IntKind.u64.wrap n) = (m0 : Int)) := Lib.hid (by
    rw [IntKind.wrap_u64, IntKind.wrap_u64]; omega)
  have hD : Hid (Dig.dec n = 45 :: Dig.digs m0) := Lib.hid (by unfold Dig.dec; rw [if_pos h, hm0])
  have hL : Hid (∀ m : Nat, m ≤ m0 → (Dig.digs m).length ≤ 19) := Lib.hid (fun m hm => Dig.digs_len20 (by omega))
  have hm2 : m0 ≤ 9300000000000000000 := by omega
  clear hm0 hm1
  go_wp2_with fail
  rw [hM.out]
  go_loopw [3, 4] (fun u s wr => ∃ (m : Nat) (t : List UInt8), m ≤ m0 ∧ u = .int .u64 (m : Int) ∧ s = .string ⟨t.toArray⟩ ∧ Hid (Dig.digs m ++ t = Dig.digs m0) ∧ Hid (Below w.heap.size w wr)) (fun u _ _ => (intOf u).toNat)
  case atStart => exact ⟨m0, [], Nat.le_refl _, rfl, rfl, Lib.hid (by simp), Lib.hid (Below.refl _ _)⟩
  case round =>
    obtain ⟨m, t, hm, rfl, rfl, HT, HB⟩ := hrel
    have htl : t.length ≤ 19 := by
      have := congrArg List.length HT.out
      have h2 := hL.out m0 (Nat.le_refl _)
      rw [List.length_append] at this
      omega
    by_cases hge : 10 ≤ m
    · have hst : Dig.digs (m / 10) ++ (UInt8.ofNat (48 + m % 10) :: t) = Dig.digs m0 := by
        rw [← HT.out, Dig.digs_step (u := m) (by omega)]; simp
      have HT2 := Lib.hid hst
      clear hst
      go_wp2
      go_roundw
      case rel =>
        refine ⟨m / 10, UInt8.ofNat (48 + m % 10) :: t, by omega, by go_num, ?_, HT2, Lib.hid (HB.out.alloc HB.out.size _)⟩
        rw [show (48 : UInt8) + UInt8.ofNat (m % 10) = UInt8.ofNat (48 + m % 10) from by simp, str_cons]
      case measure => simp [intOf]; omega
    · have hst : UInt8.ofNat (48 + m) :: t = Dig.digs m0 := by
        rw [← HT.out, Dig.digs_small (u := m) (by omega)]; rfl
      have HT2 := Lib.hid hst
      clear hst
      go_wp2
      go_ret
      refine ⟨?_, HB.out.alloc HB.out.size _⟩
      rw [hD.out, ← HT2.out, ← str_cons, ← str_cons, show UInt8.ofNat (48 + m) = (48 : UInt8) + UInt8.ofNat m from by simp]
      rfl

/-- the decimal of any int. -/
theorem digits_any (n : Int) (w : World) (h1 : -9223372036854775808 ≤ n) (h2 : n ≤ 9223372036854775807) :
    Calls Tryd.prog 21 #[.int .i64 n] w fun e w' => e = .returned (.string ⟨(Dig.dec n).toArray⟩) ∧ Below w.heap.size w w' := by
  by_cases h : n < 0
  · exact digits_neg n w h h1
  · obtain ⟨m, rfl⟩ := Int.eq_ofNat_of_zero_le (show 0 ≤ n by omega)
    have e : Dig.dec (m : Int) = Dig.digs m := by unfold Dig.dec; rw [if_neg h, Int.toNat_natCast]
    rw [e]
    exact digits_pos m w (by omega)
end Go.Proofs.YtahmddopbmjepaaDoor
