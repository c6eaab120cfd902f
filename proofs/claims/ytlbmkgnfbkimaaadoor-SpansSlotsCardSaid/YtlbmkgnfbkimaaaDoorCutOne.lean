/- The contract of strings.Cut at one byte. -/
import Derived.Test.YtlbmkgnfbkimaaaDoorShelf
import Derived.Test.YtlbmkgnfbkimaaaDoorSlotTagPlain
import Derived.WalkKit
import Derived.WalkLawsBesides
import Derived.WalkSpells
import Derived.Lib.Hide
import Derived.Outline
import Derived.Below
import Derived.Deep.QuietTactic
import Derived.BigQuiet
import Derived.Lib.IndexBytes
namespace Go.Proofs.YtlbmkgnfbkimaaaDoor
open Go.RowKit

theorem str_eq {x : ByteArray} {l : List UInt8} (h : x.data.toList = l) : x = ⟨l.toArray⟩ := by
  cases x; subst h; simp

theorem str_eq' {x : ByteArray} {l : List UInt8} (h : l = x.data.toList) : (⟨l.toArray⟩ : ByteArray) = x := by
  cases x; subst h; simp

theorem slcut_none (s : ByteArray) (c : UInt8) (w : World) (h : Tags.split c s.data.toList = none) :
    Calls Tryd.prog 73 #[.string s, .string ⟨#[c]⟩] w fun e w' => e = .returned (.tuple #[.string s, .string ⟨#[]⟩, .bool false]) ∧ w = w' := by
  have hi := (Tags.split_none h).2
  have HI := Lib.hid hi
  clear hi h
  go_enter Tryd.func73, Tryd.ntmps73
  go_wp2_with fail
  refine (Tryd.stringslite_Index_one s c _).mono ?_
  rintro e w' ⟨rfl, rfl⟩
  rw [HI.out]
  go_wp2
  go_ret3
  exact ⟨rfl, rfl⟩

theorem slcut_some (s : ByteArray) (c : UInt8) (a b : List UInt8) (w : World) (hs : s.size ≤ maxLen) (h : Tags.split c s.data.toList = some (a, b)) :
    Calls Tryd.prog 73 #[.string s, .string ⟨#[c]⟩] w fun e w' => e = .returned (.tuple #[.string ⟨a.toArray⟩, .string ⟨b.toArray⟩, .bool true]) ∧ Below w.heap.size w w' := by
  obtain ⟨h1, _, hi⟩ := Tags.split_some h
  have hlen : a.length + 1 + b.length = s.size := by
    have := congrArg List.length h1
    simp at this
    rw [this]; omega
  have HL := Lib.hid hlen
  have h2 : a.length < s.size := by omega
  have h3 : a.length + 1 ≤ s.size := by omega
  have HI := Lib.hid hi
  have H1 := Lib.hid h1
  clear hi h h1 hlen
  unfold maxLen at hs
  go_enter Tryd.func73, Tryd.ntmps73
  go_wp2_with fail
  refine (Tryd.stringslite_Index_one s c _).mono ?_
  rintro e w' ⟨rfl, rfl⟩
  rw [HI.out]
  go_wp2
  go_quiet (fail)
  go_wp2
  go_ret3
  refine ⟨?_, below_drewN (Below.refl _ _) _⟩
  have e1 : (s.extract 0 a.length) = ⟨a.toArray⟩ := str_eq (by
    rw [Lib.extract_data, H1.out]; simp)
  have e2 : (s.extract (a.length + 1) s.size) = ⟨b.toArray⟩ := str_eq (by
    rw [Lib.extract_data, H1.out]
    have : s.size = a.length + 1 + b.length := HL.out.symm
    simp [this])
  rw [e1, e2]
  rfl

theorem cut_none (s : ByteArray) (c : UInt8) (w : World) (h : Tags.split c s.data.toList = none) :
    Calls Tryd.prog 58 #[.string s, .string ⟨#[c]⟩] w fun e w' => e = .returned (.tuple #[.string s, .string ⟨#[]⟩, .bool false]) ∧ w = w' := by
  go_enter Tryd.func58, Tryd.ntmps58
  go_wp2_with fail
  refine (slcut_none s c _ h).mono ?_
  rintro e w' ⟨rfl, rfl⟩
  go_wp2
  go_ret3
  exact ⟨rfl, rfl⟩

theorem cut_some (s : ByteArray) (c : UInt8) (a b : List UInt8) (w : World) (hs : s.size ≤ maxLen) (h : Tags.split c s.data.toList = some (a, b)) :
    Calls Tryd.prog 58 #[.string s, .string ⟨#[c]⟩] w fun e w' => e = .returned (.tuple #[.string ⟨a.toArray⟩, .string ⟨b.toArray⟩, .bool true]) ∧ Below w.heap.size w w' := by
  go_enter Tryd.func58, Tryd.ntmps58
  go_wp2_with fail
  refine (slcut_some s c a b _ hs h).mono ?_
  rintro e w' ⟨rfl, hb⟩
  have HB := Lib.hid hb
  clear hb
  go_wp2
  go_ret3
  exact ⟨rfl, HB.out⟩


end Go.Proofs.YtlbmkgnfbkimaaaDoor
