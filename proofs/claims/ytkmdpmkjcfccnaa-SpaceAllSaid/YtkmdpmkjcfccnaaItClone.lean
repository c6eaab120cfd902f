/- The contract of strings.Clone. -/
import Derived.Test.YtkmdpmkjcfccnaaShelfC
import Derived.Test.YtkmdpmkjcfccnaaItMakeFar
namespace Go.Proofs.Ytkmdpmkjcfccnaa
open Go.RowKit Go.Shelf

set_option maxHeartbeats 1000000 in
theorem clone_any (l : List UInt8) (w : World) (h : l.length ≤ 281474976710656) : Calls Try.prog 51 #[.string ⟨l.toArray⟩] w fun e w' => e = .returned (.string ⟨l.toArray⟩) ∧ Below w.heap.size w w' := by
  have hs : (⟨l.toArray⟩ : ByteArray).size = l.length := by simp [ByteArray.size]
  have hc : Calls Try.prog 69 #[.string ⟨l.toArray⟩] w fun e w' => e = .returned (.string ⟨l.toArray⟩) ∧ Below w.heap.size w w' := Any.stringslite_Clone Try.cloneL ⟨l.toArray⟩ w (by omega)
  have HC := Lib.hid hc
  clear hc hs
  go_enter Try.func51, Try.ntmps51
  go_wp2_with (go_at_call 69; refine HC.out.mono ?_; rintro e w1 ⟨rfl, hb⟩; have HB := Lib.hid hb; clear hb)
  go_ret
  exact ⟨rfl, HB.out⟩

end Go.Proofs.Ytkmdpmkjcfccnaa
