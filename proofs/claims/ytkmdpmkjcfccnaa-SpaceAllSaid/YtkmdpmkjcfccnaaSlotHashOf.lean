/- The contract of slot.Of. -/
import Derived.Test.YtkmdpmkjcfccnaaSlotCrc
import Derived.Test.YtkmdpmkjcfccnaaSlotTag
import Derived.Below
import Derived.Lib.SlBytesConst
import Derived.Lib.ConvBytes
import Derived.Laws.IdiomStrings
import Derived.Test.YtkmdpmkjcfccnaaSlotHash
namespace Go.Proofs.Ytkmdpmkjcfccnaa
open Go.RowKit

theorem below_bytesWorld (w : World) (e : TypeId) (s : ByteArray) : Below w.heap.size w (Lib.bytesWorld w e s) :=
  ⟨rfl, rfl, rfl, by rw [Lib.bytesWorld_size]; omega, fun k hk => Lib.bytesWorld_at_old w e s k hk⟩

theorem bytes_bytesWorld (w : World) (e : TypeId) (s : ByteArray) : Bytes (Lib.bytesWorld w e s) (some ⟨w.heap.size, 0, none⟩) s.data.toList :=
  .inr ⟨_, 0, rfl, fun k hk => by
    rw [Nat.zero_add]
    exact Lib.bytesWorld_cell w e s k (by simpa using hk)⟩

theorem crc_str (s : ByteArray) (a : Option Addr) (cap : Nat) (w : World) (hs : s.size ≤ maxLen) (hb : Bytes w a s.data.toList) :
    Calls Try.prog 81 #[.slice a s.size cap] w fun e w' => e = .returned (.int .i64 (Crc16.crc s.data.toList)) ∧ w = w' := by
  have e : s.size = s.data.toList.length := by simp
  rw [e]
  refine crc_any a cap _ w ?_ hb
  unfold maxLen at hs
  simp; omega

set_option maxHeartbeats 400000 in
theorem of_walk (s : ByteArray) (w : World) (hs : s.size ≤ maxLen) :
    Calls Try.prog 68 #[.string s] w fun e w' => e = .returned (.int .i64 (slotOf s.data.toList)) ∧ Below w.heap.size w w' := by
  have hconv := fun (w : World) (s : ByteArray) => Lib.run_convert_string_bytes (P := Try.prog) w 9 47 5 s Try.underlying9 Try.underlying47 Try.underlying5
  have htl : (Tags.tag s.data.toList).length ≤ 9223372036854775807 := by
    have := Tags.tag_len s.data.toList
    unfold maxLen at hs
    simp at this; omega
  have HTL := Lib.hid htl
  clear htl
  go_enter Try.func68, Try.ntmps68
  go_wp2_with fail
  refine (tag_walk s _ hs).mono ?_
  rintro e w1 ⟨rfl, hb⟩
  have HB := Lib.hid hb
  clear hb
  go_wp2_with fail
  refine (crc_any _ _ (Tags.tag s.data.toList) _ HTL.out (bytes_bytesWorld w1 5 ⟨(Tags.tag s.data.toList).toArray⟩)).mono ?_
  rintro e w2 ⟨rfl, rfl⟩
  have hlt := Crc16.crc_lt (Tags.tag s.data.toList)
  have he : ((Crc16.crc (Tags.tag s.data.toList) : Int) % 16384) = ((slotOf s.data.toList : Nat) : Int) := by unfold slotOf; omega
  have HE := Lib.hid he
  clear he hconv
  go_wp2
  go_ret
  exact ⟨by rw [HE.out]; rfl, HB.out.trans ((below_bytesWorld _ _ _).mono HB.out.size)⟩

end Go.Proofs.Ytkmdpmkjcfccnaa
