/- What is told of a []byte that came in, its capacity with it. -/
import Derived.Test.YtcjbfgkmpoebgaaDoorRpBytes
import Derived.Test.YtcjbfgkmpoebgaaDoorTxWf
namespace Go.Proofs.YtcjbfgkmpoebgaaDoor
open Go.RowKit Go.Shelf

theorem mk_of (s : ByteArray) : (⟨s.data.toList.toArray⟩ : ByteArray) = s := by
  apply ByteArray.ext
  simp
theorem len_of (s : ByteArray) : s.data.toList.length = s.size := Array.length_toList

theorem bt_in_none (w : World) : Bt (fun _ => True) w none 0 [] := ⟨Nat.le_refl _, by decide, .inl rfl⟩

theorem bt_in (w : World) (x : Addr) (len cap : Nat) (zs : List Int) (hl : len ≤ cap) (hm : cap ≤ maxLen) (hz : len ≤ zs.length)
    (hcell : ∀ i, i < zs.length → w.cell? (x.add i) = some (.int .u8 (zs.getD i 0))) (hwz : ∀ n ∈ zs, (Lit.int .u8 n).wf = true) :
    ∃ l : List UInt8, len = l.length ∧ Bt (fun _ => True) w (some x) cap l := by
  have hM : maxLen = 9223372036854775807 := by decide
  have hlen : ((zs.take len).map fun n => UInt8.ofNat n.toNat).length = len := by simp; omega
  refine ⟨(zs.take len).map fun n => UInt8.ofNat n.toNat, hlen.symm, by rw [hlen]; exact hl, by omega, ?_⟩
  by_cases h0 : len = 0
  · left; subst h0; simp
  · right
    obtain ⟨b, off, spot⟩ := x
    have hc := hcell 0 (by omega)
    have hspot : spot = none := by simpa [Addr.add] using World.cell?_spot hc
    subst hspot
    refine ⟨b, off, rfl, trivial, by simpa [Addr.add] using World.block_lt_of_cell? w _ hc, fun k hk => ?_⟩
    rw [hlen] at hk
    have hk' : k < zs.length := by omega
    have h1 := hcell k hk'
    have hb := wf_u8' (hwz (zs[k]) (List.getElem_mem hk'))
    have ea : (Addr.add ⟨b, off, none⟩ k) = ⟨b, off + k, none⟩ := by unfold Addr.add; split <;> simp_all
    rw [ea] at h1
    rw [h1]
    have e : zs.getD k 0 = zs[k] := by simp [List.getD, hk']
    have e2 : ((zs.take len).map fun n => UInt8.ofNat n.toNat).getD k 0 = UInt8.ofNat zs[k].toNat := by simp [List.getD, hk, hk']
    have e3 : (UInt8.ofNat zs[k].toNat).toNat = zs[k].toNat := by simp; omega
    rw [e, e2, e3]
    congr 2
    omega
end Go.Proofs.YtcjbfgkmpoebgaaDoor
