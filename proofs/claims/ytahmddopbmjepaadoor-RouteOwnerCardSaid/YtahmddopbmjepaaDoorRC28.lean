/- The contracts of strings.Cut at one byte, slot.Tag. The contract of slot.Of. -/
import Derived.Test.YtahmddopbmjepaaDoorRC17
import Derived.Test.YtahmddopbmjepaaDoorRC16
import Derived.Test.YtahmddopbmjepaaDoorRC01
import Derived.WalkKit
import Derived.WalkLawsBesides
import Derived.WalkSpells
import Derived.Lib.Hide
import Derived.Outline
import Derived.Below
import Derived.Deep.QuietTactic
import Derived.BigQuiet
import Derived.Lib.IndexBytes
import Derived.Test.YtahmddopbmjepaaDoorRC05
import Derived.Test.YtahmddopbmjepaaDoorRC04
import Derived.Lib.SlBytesConst
import Derived.Lib.ConvBytes
import Derived.Laws.IdiomStrings
namespace Go.Proofs.YtahmddopbmjepaaDoor
open Go.RowKit

theorem tag_walk (s : ByteArray) (w : World) (hs : s.size ≤ maxLen) :
    Calls Tryd.prog 59 #[.string s] w fun e w' => e = .returned (.string ⟨(Tags.tag s.data.toList).toArray⟩) ∧ Below w.heap.size w w' := by
  cases h1 : Tags.split 123 s.data.toList with
  | none =>
    have ht : (⟨(Tags.tag s.data.toList).toArray⟩ : ByteArray) = s := str_eq' (by unfold Tags.tag; rw [h1])
    have HT := Lib.hid ht
    have H1 := Lib.hid h1
    clear ht h1
    go_enter Tryd.func59, Tryd.ntmps59
    go_wp2_with fail
    refine (cut_none s 123 _ H1.out).mono ?_
    rintro e w' ⟨rfl, rfl⟩
    go_wp2
    go_ret
    exact ⟨by rw [HT.out]; rfl, Below.refl _ _⟩
  | some p =>
    obtain ⟨a, b⟩ := p
    have hab := (Tags.split_some h1).1
    have hbl : (⟨b.toArray⟩ : ByteArray).size ≤ maxLen := by
      have := congrArg List.length hab
      simp at this
      have h3 : (⟨b.toArray⟩ : ByteArray).size = b.length := rfl
      rw [h3]; omega
    cases h2 : Tags.split 125 b with
    | none =>
      have ht : (⟨(Tags.tag s.data.toList).toArray⟩ : ByteArray) = s := str_eq' (by unfold Tags.tag; rw [h1]; simp only; rw [h2])
      have HT := Lib.hid ht
      have H1 := Lib.hid h1
      have H2 := Lib.hid h2
      have HL := Lib.hid hbl
      clear ht h1 h2 hab hbl
      go_enter Tryd.func59, Tryd.ntmps59
      go_wp2_with fail
      refine (cut_some s 123 a b _ hs H1.out).mono ?_
      rintro e w' ⟨rfl, hb⟩
      have HB := Lib.hid hb
      clear hb
      go_wp2_with fail
      refine (cut_none ⟨b.toArray⟩ 125 _ H2.out).mono ?_
      rintro e w' ⟨rfl, rfl⟩
      go_wp2
      go_ret
      exact ⟨by rw [HT.out]; rfl, HB.out⟩
    | some q =>
      obtain ⟨t, r⟩ := q
      by_cases h0 : t = []
      · subst h0
        have ht : (⟨(Tags.tag s.data.toList).toArray⟩ : ByteArray) = s := str_eq' (by unfold Tags.tag; rw [h1]; simp only; rw [h2]; simp)
        have HT := Lib.hid ht
        have H1 := Lib.hid h1
        have H2 := Lib.hid h2
        have HL := Lib.hid hbl
        clear ht h1 h2 hab hbl
        go_enter Tryd.func59, Tryd.ntmps59
        go_wp2_with fail
        refine (cut_some s 123 a b _ hs H1.out).mono ?_
        rintro e w1 ⟨rfl, hb⟩
        have HB := Lib.hid hb
        clear hb
        go_wp2_with fail
        refine (cut_some ⟨b.toArray⟩ 125 [] r _ HL.out H2.out).mono ?_
        rintro e w2 ⟨rfl, hb⟩
        have HB2 := Lib.hid hb
        clear hb
        go_wp2
        go_ret
        exact ⟨by rw [HT.out]; rfl, HB.out.trans (HB2.out.mono HB.out.size)⟩
      · have ht : (⟨(Tags.tag s.data.toList).toArray⟩ : ByteArray) = ⟨t.toArray⟩ := by unfold Tags.tag; rw [h1]; simp only; rw [h2]; simp only; rw [if_neg h0]
        have HT := Lib.hid ht
        have H1 := Lib.hid h1
        have H2 := Lib.hid h2
        have HL := Lib.hid hbl
        have h0' : t.isEmpty = false := by cases t <;> simp_all
        clear ht h1 h2 hab hbl
        go_enter Tryd.func59, Tryd.ntmps59
        go_wp2_with fail
        refine (cut_some s 123 a b _ hs H1.out).mono ?_
        rintro e w1 ⟨rfl, hb⟩
        have HB := Lib.hid hb
        clear hb
        go_wp2_with fail
        refine (cut_some ⟨b.toArray⟩ 125 t r _ HL.out H2.out).mono ?_
        rintro e w2 ⟨rfl, hb⟩
        have HB2 := Lib.hid hb
        clear hb
        go_wp2
        go_ret
        exact ⟨by rw [HT.out]; rfl, HB.out.trans (HB2.out.mono HB.out.size)⟩

end Go.Proofs.YtahmddopbmjepaaDoor
namespace Go.Proofs.YtahmddopbmjepaaDoor
open Go.RowKit

theorem below_bytesWorld (w : World) (e : TypeId) (s : ByteArray) : Below w.heap.size w (Lib.bytesWorld w e s) :=
  ⟨rfl, rfl, rfl, by rw [Lib.bytesWorld_size]; omega, fun k hk => Lib.bytesWorld_at_old w e s k hk⟩

theorem bytes_bytesWorld (w : World) (e : TypeId) (s : ByteArray) : Bytes (Lib.bytesWorld w e s) (some ⟨w.heap.size, 0, none⟩) s.data.toList :=
  .inr ⟨_, 0, rfl, fun k hk => by
    rw [Nat.zero_add]
    exact Lib.bytesWorld_cell w e s k (by simpa using hk)⟩

theorem crc_str (s : ByteArray) (a : Option Addr) (cap : Nat) (w : World) (hs : s.size ≤ maxLen) (hb : Bytes w a s.data.toList) :
    Calls Tryd.prog 58 #[.slice a s.size cap] w fun e w' => e = .returned (.int .i64 (Crc16.crc s.data.toList)) ∧ w = w' := by
  have e : s.size = s.data.toList.length := by simp
  rw [e]
  refine crc_any a cap _ w ?_ hb
  unfold maxLen at hs
  simp; omega

set_option maxHeartbeats 400000 in
theorem of_walk (s : ByteArray) (w : World) (hs : s.size ≤ maxLen) :
    Calls Tryd.prog 46 #[.string s] w fun e w' => e = .returned (.int .i64 (slotOf s.data.toList)) ∧ Below w.heap.size w w' := by
  have hconv := fun (w : World) (s : ByteArray) => Lib.run_convert_string_bytes (P := Tryd.prog) w 9 50 5 s Tryd.underlying9 Tryd.underlying50 Tryd.underlying5
  have htl : (Tags.tag s.data.toList).length ≤ 9223372036854775807 := by
    have := Tags.tag_len s.data.toList
    unfold maxLen at hs
    simp at this; omega
  have HTL := Lib.hid htl
  clear htl
  go_enter Tryd.func46, Tryd.ntmps46
  go_wp2_with fail
  refine (tag_walk s _ hs).mono ?_
  rintro e w1 ⟨rfl, hb⟩
  have HB := Lib.hid hb
  clear hb
  go_wp2_with fail
  refine (crc_any _ _ (Tags.tag s.data.toList) _ HTL.out (bytes_bytesWorld w1 5 ⟨(Tags.tag s.data.toList).toArray⟩)).mono ?_
  rintro e w2 ⟨rfl, rfl⟩
  have hlt := Crc16.crc_lt (Tags.tag s.data.toList)
  have he : ((Crc16.crc (Tags.tag s.data.toList) : Int) % 16384) = ((slotOf s.data.toList : Nat) : Int) := by unfold slotOf; omega
  have HE := Lib.hid he
  clear he hconv
  go_wp2
  go_ret
  exact ⟨by rw [HE.out]; rfl, HB.out.trans ((below_bytesWorld _ _ _).mono HB.out.size)⟩

end Go.Proofs.YtahmddopbmjepaaDoor
