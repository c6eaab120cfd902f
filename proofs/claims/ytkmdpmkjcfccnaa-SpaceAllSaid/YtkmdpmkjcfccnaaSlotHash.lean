/- The slot of a key; the contract of caravanref1.Slot. -/
import Derived.Test.YtkmdpmkjcfccnaaSlotCrc
import Derived.Below
import Derived.Lib.SlBytesConst
import Derived.Lib.ConvBytes
import Derived.Laws.IdiomStrings
import Derived.Test.YtkmdpmkjcfccnaaSlotRefTag
namespace Go.Proofs.Ytkmdpmkjcfccnaa
open Go.RowKit

/-- the slot of a key. -/
def slotOf (k : List UInt8) : Nat := Crc16.crc (Tags.tag k) % 16384

theorem slotOf_lt (k : List UInt8) : slotOf k < 16384 := Nat.mod_lt _ (by decide)

theorem refSlot_walk (s : ByteArray) (w : World) (hs : s.size ≤ maxLen) :
    Calls Try.prog 32 #[.string s] w fun e w' => e = .returned (.int .i64 (slotOf s.data.toList)) ∧ w = w' := by
  have htl : (⟨(Tags.tag s.data.toList).toArray⟩ : ByteArray).size ≤ maxLen := by
    have := Tags.tag_len s.data.toList
    have h2 : (⟨(Tags.tag s.data.toList).toArray⟩ : ByteArray).size = (Tags.tag s.data.toList).length := rfl
    rw [h2]
    simp at this; omega
  have HTL := Lib.hid htl
  clear htl
  go_enter Try.func32, Try.ntmps32
  go_wp2_with fail
  refine (refTag_walk s _ hs).mono ?_
  rintro e w1 ⟨rfl, rfl⟩
  go_wp2_with fail
  refine (refCrc_walk _ _ HTL.out).mono ?_
  rintro e w1 ⟨rfl, rfl⟩
  have hlt := Crc16.crc_lt (Tags.tag s.data.toList)
  have he : ((Crc16.crc (Tags.tag s.data.toList) : Int) % 16384) = ((slotOf s.data.toList : Nat) : Int) := by unfold slotOf; omega
  have HE := Lib.hid he
  clear he
  go_wp2
  go_ret
  exact ⟨by rw [HE.out]; rfl, rfl⟩

end Go.Proofs.Ytkmdpmkjcfccnaa
