/- What the laws of stage 3 share: Get of a text's bytes, Put as a text, Num. -/
import Derived.Test.YtcjbfgkmpoebgaaDoorRpGet
import Derived.Test.YtcjbfgkmpoebgaaDoorRpEnc
import Derived.Test.YtcjbfgkmpoebgaaDoorRpPut
import Derived.Lib.ConvBytes
import Derived.Lib.SlBytesConst
import Derived.Lib.AtoiErrMem
namespace Go.Proofs.YtcjbfgkmpoebgaaDoor
open Go.RowKit Go.Shelf
attribute [local go_sem] Oper.semAt_some
set_option linter.unusedVariables false
set_option linter.unusedSimpArgs false

theorem num_law (c : Int) (w : World) : Calls Tryd.prog 19 #[.int .i64 c] w fun e W => e = .returned (.int .i64 c) ∧ w = W := by
  go_enter Tryd.func19, Tryd.ntmps19
  go_wp2
  go_ret
  exact ⟨rfl, rfl⟩

/-- bytes in a block. -/
theorem Bt.of_block {W : World} {b cap : Nat} {cs : Array Value} {fz : Nat × Nat} {bs : List UInt8} (h : W.heap[b]? = some (.cells cs 5 fz)) (hc : ∀ k, k < bs.length → cs[k]? = some (.int .u8 ((bs.getD k 0).toNat : Int))) (hl : bs.length ≤ cap) (hm : cap ≤ 9223372036854775807) :
    Bt (fun i => i < W.heap.size) W (some ⟨b, 0, none⟩) cap bs := by
  have hlt := (Array.getElem?_eq_some_iff.1 h).1
  refine ⟨hl, hm, .inr ⟨b, 0, rfl, hlt, hlt, fun k hk => ?_⟩⟩
  have := hc k hk
  rw [Nat.zero_add]
  simp [World.cell?, h, this]

/-- what Put hands back, as bytes that came in. -/
theorem Buf.bt {base : Nat} {bs : List UInt8} {v : Value} {W : World} (h : Buf base bs v W) : ∃ a cap, v = .slice a bs.length cap ∧ Bt (fun i => i < W.heap.size) W a cap bs := by
  obtain ⟨_, hc⟩ := h
  rcases hc with ⟨h1, h2⟩ | ⟨g, cap, cur, h1, hb, hg, hn, hm, hs, ht⟩
  · have : bs = [] := List.eq_nil_of_length_eq_zero h2
    subst this
    exact ⟨none, 0, h1, Nat.le_refl _, by decide, .inl rfl⟩
  · refine ⟨some ⟨g, 0, none⟩, cap, h1, Bt.of_block hg (fun k hk => ?_) hn (by unfold maxLen at hm; omega)⟩
    have h3 : (cur.toList.take (bs.length * 1))[k]? = (Lib.byteCells bs)[k]? := by rw [ht]
    rw [List.getElem?_take_of_lt (by omega)] at h3
    rw [Array.getElem?_toList] at h3
    rw [h3]
    simp [Lib.byteCells, List.getD, hk]
theorem Buf.conv {base : Nat} {bs : List UInt8} {v : Value} {W : World} (h : Buf base bs v W) : (convert 28 9 v).run Tryd.prog W = .ok (.string ⟨bs.toArray⟩) W := by
  obtain ⟨a, cap, rfl, hb⟩ := h.bt
  exact hb.conv

/-- []byte(s). -/
def capS (w : World) (s : List UInt8) : Nat := grownCap w s.length 0 5
theorem sb_conv (w : World) (s : List UInt8) : (convert 9 28 (.string ⟨s.toArray⟩)).run Tryd.prog w = .ok (.slice (some ⟨w.heap.size, 0, none⟩) s.length (capS w s)) (Lib.bytesWorld w 5 ⟨s.toArray⟩) :=
  Lib.run_convert_string_bytes (P := Tryd.prog) w 9 28 5 ⟨s.toArray⟩ Tryd.underlying9 Tryd.underlying28 Tryd.underlying5
theorem sb_bt (w : World) (s : List UInt8) (hl : s.length ≤ 1000000) (hc : s.length ≤ capS w s ∧ capS w s ≤ 9223372036854775807) : Bt (fun i => i < (Lib.bytesWorld w 5 ⟨s.toArray⟩).heap.size) (Lib.bytesWorld w 5 ⟨s.toArray⟩) (some ⟨w.heap.size, 0, none⟩) (capS w s) s := by
  have hs : (⟨s.toArray⟩ : ByteArray).size = s.length := by show s.toArray.size = _; simp
  refine ⟨hc.1, hc.2, .inr ⟨w.heap.size, 0, rfl, by rw [Lib.bytesWorld_size]; omega, by rw [Lib.bytesWorld_size]; omega, fun k hk => ?_⟩⟩
  rw [Nat.zero_add, Lib.bytesWorld_cell w _ _ k (by rw [hs]; exact hk)]
end Go.Proofs.YtcjbfgkmpoebgaaDoor
