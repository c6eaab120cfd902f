/- The contracts of strings.Cut at one byte, slot.Tag. -/
import Derived.Test.YtkmdpmkjcfccnaaShelf
import Derived.Test.YtkmdpmkjcfccnaaSlotTagPlain
import Derived.WalkKit
import Derived.WalkLawsBesides
import Derived.WalkSpells
import Derived.Lib.Hide
import Derived.Outline
import Derived.Below
import Derived.Deep.QuietTactic
import Derived.BigQuiet
import Derived.Lib.IndexBytes
import Derived.Test.YtkmdpmkjcfccnaaSlotRefTag
namespace Go.Proofs.Ytkmdpmkjcfccnaa
open Go.RowKit

theorem slcut_none (s : ByteArray) (c : UInt8) (w : World) (h : Tags.split c s.data.toList = none) :
    Calls Try.prog 105 #[.string s, .string ⟨#[c]⟩] w fun e w' => e = .returned (.tuple #[.string s, .string ⟨#[]⟩, .bool false]) ∧ w = w' := by
  have hi := (Tags.split_none h).2
  have HI := Lib.hid hi
  clear hi h
  go_enter Try.func105, Try.ntmps105
  go_wp2_with fail
  refine (Try.stringslite_Index_one s c _).mono ?_
  rintro e w' ⟨rfl, rfl⟩
  rw [HI.out]
  go_wp2
  go_ret3
  exact ⟨rfl, rfl⟩

theorem slcut_some (s : ByteArray) (c : UInt8) (a b : List UInt8) (w : World) (hs : s.size ≤ maxLen) (h : Tags.split c s.data.toList = some (a, b)) :
    Calls Try.prog 105 #[.string s, .string ⟨#[c]⟩] w fun e w' => e = .returned (.tuple #[.string ⟨a.toArray⟩, .string ⟨b.toArray⟩, .bool true]) ∧ Below w.heap.size w w' := by
  obtain ⟨h1, _, hi⟩ := Tags.split_some h
  have hlen : a.length + 1 + b.length = s.size := by
    have := congrArg List.length h1
    simp at this
    rw [this]; omega
  have HL := Lib.hid hlen
  have h2 : a.length < s.size := by omega
  have h3 : a.length + 1 ≤ s.size := by omega
  have HI := Lib.hid hi
  have H1 := Lib.hid h1
  clear hi h h1 hlen
  unfold maxLen at hs
  go_enter Try.func105, Try.ntmps105
  go_wp2_with fail
  refine (Try.stringslite_Index_one s c _).mono ?_
  rintro e w' ⟨rfl, rfl⟩
  rw [HI.out]
  go_wp2
  go_quiet (fail)
  go_wp2
  go_ret3
  refine ⟨?_, below_drewN (Below.refl _ _) _⟩
  have e1 : (s.extract 0 a.length) = ⟨a.toArray⟩ := str_eq (by
    rw [Lib.extract_data, H1.out]; simp)
  have e2 : (s.extract (a.length + 1) s.size) = ⟨b.toArray⟩ := str_eq (by
    rw [Lib.extract_data, H1.out]
    have : s.size = a.length + 1 + b.length := HL.out.symm
    simp [this])
  rw [e1, e2]
  rfl

theorem cut_none (s : ByteArray) (c : UInt8) (w : World) (h : Tags.split c s.data.toList = none) :
    Calls Try.prog 98 #[.string s, .string ⟨#[c]⟩] w fun e w' => e = .returned (.tuple #[.string s, .string ⟨#[]⟩, .bool false]) ∧ w = w' := by
  go_enter Try.func98, Try.ntmps98
  go_wp2_with fail
  refine (slcut_none s c _ h).mono ?_
  rintro e w' ⟨rfl, rfl⟩
  go_wp2
  go_ret3
  exact ⟨rfl, rfl⟩

theorem cut_some (s : ByteArray) (c : UInt8) (a b : List UInt8) (w : World) (hs : s.size ≤ maxLen) (h : Tags.split c s.data.toList = some (a, b)) :
    Calls Try.prog 98 #[.string s, .string ⟨#[c]⟩] w fun e w' => e = .returned (.tuple #[.string ⟨a.toArray⟩, .string ⟨b.toArray⟩, .bool true]) ∧ Below w.heap.size w w' := by
  go_enter Try.func98, Try.ntmps98
  go_wp2_with fail
  refine (slcut_some s c a b _ hs h).mono ?_
  rintro e w' ⟨rfl, hb⟩
  have HB := Lib.hid hb
  clear hb
  go_wp2
  go_ret3
  exact ⟨rfl, HB.out⟩

theorem tag_walk (s : ByteArray) (w : World) (hs : s.size ≤ maxLen) :
    Calls Try.prog 82 #[.string s] w fun e w' => e = .returned (.string ⟨(Tags.tag s.data.toList).toArray⟩) ∧ Below w.heap.size w w' := by
  cases h1 : Tags.split 123 s.data.toList with
  | none =>
    have ht : (⟨(Tags.tag s.data.toList).toArray⟩ : ByteArray) = s := str_eq' (by unfold Tags.tag; rw [h1])
    have HT := Lib.hid ht
    have H1 := Lib.hid h1
    clear ht h1
    go_enter Try.func82, Try.ntmps82
    go_wp2_with fail
    refine (cut_none s 123 _ H1.out).mono ?_
    rintro e w' ⟨rfl, rfl⟩
    go_wp2
    go_ret
    exact ⟨by rw [HT.out]; rfl, Below.refl _ _⟩
  | some p =>
    obtain ⟨a, b⟩ := p
    have hab := (Tags.split_some h1).1
    have hbl : (⟨b.toArray⟩ : ByteArray).size ≤ maxLen := by
      have := congrArg List.length hab
      simp at this
      have h3 : (⟨b.toArray⟩ : ByteArray).size = b.length := rfl
      rw [h3]; omega
    cases h2 : Tags.split 125 b with
    | none =>
      have ht : (⟨(Tags.tag s.data.toList).toArray⟩ : ByteArray) = s := str_eq' (by unfold Tags.tag; rw [h1]; simp only; rw [h2])
      have HT := Lib.hid ht
      have H1 := Lib.hid h1
      have H2 := Lib.hid h2
      have HL := Lib.hid hbl
      clear ht h1 h2 hab hbl
      go_enter Try.func82, Try.ntmps82
      go_wp2_with fail
      refine (cut_some s 123 a b _ hs H1.out).mono ?_
      rintro e w' ⟨rfl, hb⟩
      have HB := Lib.hid hb
      clear hb
      go_wp2_with fail
      refine (cut_none ⟨b.toArray⟩ 125 _ H2.out).mono ?_
      rintro e w' ⟨rfl, rfl⟩
      go_wp2
      go_ret
      exact ⟨by rw [HT.out]; rfl, HB.out⟩
    | some q =>
      obtain ⟨t, r⟩ := q
      by_cases h0 : t = []
      · subst h0
        have ht : (⟨(Tags.tag s.data.toList).toArray⟩ : ByteArray) = s := str_eq' (by unfold Tags.tag; rw [h1]; simp only; rw [h2]; simp)
        have HT := Lib.hid ht
        have H1 := Lib.hid h1
        have H2 := Lib.hid h2
        have HL := Lib.hid hbl
        clear ht h1 h2 hab hbl
        go_enter Try.func82, Try.ntmps82
        go_wp2_with fail
        refine (cut_some s 123 a b _ hs H1.out).mono ?_
        rintro e w1 ⟨rfl, hb⟩
        have HB := Lib.hid hb
        clear hb
        go_wp2_with fail
        refine (cut_some ⟨b.toArray⟩ 125 [] r _ HL.out H2.out).mono ?_
        rintro e w2 ⟨rfl, hb⟩
        have HB2 := Lib.hid hb
        clear hb
        go_wp2
        go_ret
        exact ⟨by rw [HT.out]; rfl, HB.out.trans (HB2.out.mono HB.out.size)⟩
      · have ht : (⟨(Tags.tag s.data.toList).toArray⟩ : ByteArray) = ⟨t.toArray⟩ := by unfold Tags.tag; rw [h1]; simp only; rw [h2]; simp only; rw [if_neg h0]
        have HT := Lib.hid ht
        have H1 := Lib.hid h1
        have H2 := Lib.hid h2
        have HL := Lib.hid hbl
        have h0' : t.isEmpty = false := by cases t <;> simp_all
        clear ht h1 h2 hab hbl
        go_enter Try.func82, Try.ntmps82
        go_wp2_with fail
        refine (cut_some s 123 a b _ hs H1.out).mono ?_
        rintro e w1 ⟨rfl, hb⟩
        have HB := Lib.hid hb
        clear hb
        go_wp2_with fail
        refine (cut_some ⟨b.toArray⟩ 125 t r _ HL.out H2.out).mono ?_
        rintro e w2 ⟨rfl, hb⟩
        have HB2 := Lib.hid hb
        clear hb
        go_wp2
        go_ret
        exact ⟨by rw [HT.out]; rfl, HB.out.trans (HB2.out.mono HB.out.size)⟩

end Go.Proofs.Ytkmdpmkjcfccnaa
