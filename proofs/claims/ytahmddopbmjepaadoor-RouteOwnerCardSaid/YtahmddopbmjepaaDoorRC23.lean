/- What ItClone asks of internal/stringslite.Clone: as the shelf lays it. The contract of strings.Clone. -/
import Derived.Test.YtahmddopbmjepaaDoorRC16
namespace Go.Proofs
theorem Tryd.cloneL : LaysM.n316 Tryd.prog Tryd.laysM316_ren := Tryd.laysM316
end Go.Proofs
namespace Go.Proofs.YtahmddopbmjepaaDoor
open Go.RowKit Go.Shelf

set_option maxHeartbeats 1000000 in
theorem clone_any (l : List UInt8) (w : World) (h : l.length ≤ 281474976710656) : Calls Tryd.prog 85 #[.string ⟨l.toArray⟩] w fun e w' => e = .returned (.string ⟨l.toArray⟩) ∧ Below w.heap.size w w' := by
  have hs : (⟨l.toArray⟩ : ByteArray).size = l.length := by simp [ByteArray.size]
  have hc : Calls Tryd.prog 93 #[.string ⟨l.toArray⟩] w fun e w' => e = .returned (.string ⟨l.toArray⟩) ∧ Below w.heap.size w w' := Any.stringslite_Clone Tryd.cloneL ⟨l.toArray⟩ w (by omega)
  have HC := Lib.hid hc
  clear hc hs
  go_enter Tryd.func85, Tryd.ntmps85
  go_wp2_with (go_at_call 93; refine HC.out.mono ?_; rintro e w1 ⟨rfl, hb⟩; have HB := Lib.hid hb; clear hb)
  go_ret
  exact ⟨rfl, HB.out⟩

end Go.Proofs.YtahmddopbmjepaaDoor
