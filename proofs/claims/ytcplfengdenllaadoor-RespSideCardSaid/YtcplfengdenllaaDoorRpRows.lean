/- What is told of a [][]byte that came in. -/
import Derived.Test.YtcplfengdenllaaDoorRespSideWalk
import Derived.Test.YtcplfengdenllaaDoorTxWf
import Derived.Deep.Matrix
namespace Go.Proofs.YtcplfengdenllaaDoor
open Go.RowKit Go.Shelf

theorem bss_none (w : World) : Bss w none 0 [] := ⟨Nat.le_refl _, by decide, .inl rfl⟩

theorem row_at {w : World} {base : Nat} {A : Option Addr} {L C : Nat} {Z : List Int} (h1 : L ≤ C) (h2 : C ≤ maxLen) (h3 : Z.length = C) (h4 : ∀ n ∈ Z, (Lit.int .u8 n).wf = true) (h5 : A = none → C = 0)
    (h6 : ∀ a', A = some a' → base ≤ a'.block ∧ ∀ c, c < C → w.cell? (a'.add c) = some (.int .u8 (Z.getD c 0))) :
    ((Z.take L).map fun n => UInt8.ofNat n.toNat).length = L ∧ Bt (fun _ => True) w A C ((Z.take L).map fun n => UInt8.ofNat n.toNat) := by
  have hM : maxLen = 9223372036854775807 := by decide
  have hlen : ((Z.take L).map fun n => UInt8.ofNat n.toNat).length = L := by simp; omega
  refine ⟨hlen, by rw [hlen]; exact h1, by omega, ?_⟩
  by_cases h0 : L = 0
  · left; subst h0; simp
  · right
    cases A with
    | none => have := h5 rfl; omega
    | some a' =>
      obtain ⟨g, o, spot⟩ := a'
      obtain ⟨_, hc⟩ := h6 _ rfl
      have hc0 := hc 0 (by omega)
      have hspot : spot = none := by simpa [Addr.add] using World.cell?_spot hc0
      subst hspot
      refine ⟨g, o, rfl, trivial, by simpa [Addr.add] using World.block_lt_of_cell? w _ hc0, fun k hk => ?_⟩
      rw [hlen] at hk
      have h := hc k (by omega)
      have ea : (Addr.add ⟨g, o, none⟩ k) = ⟨g, o + k, none⟩ := by unfold Addr.add; split <;> simp_all
      rw [ea] at h
      rw [h]
      have hkz : k < Z.length := by omega
      have hz : Z.getD k 0 = Z[k] := by simp [List.getD, hkz]
      have hb := wf_u8' (h4 Z[k] (List.getElem_mem hkz))
      have e2 : ((Z.take L).map fun n => UInt8.ofNat n.toNat).getD k 0 = UInt8.ofNat Z[k].toNat := by simp [List.getD, hk, hkz]
      rw [hz, e2]
      have e3 : (UInt8.ofNat Z[k].toNat).toNat = Z[k].toNat := by simp; omega
      rw [e3]
      congr 2
      omega

theorem bss_of {w : World} {base : Nat} (x : Addr) (len cap : Nat) (A : Nat → Option Addr) (L C : Nat → Nat) (Z : Nat → List Int) (hl : len ≤ cap) (hm : cap ≤ maxLen)
    (hcell : ∀ r, r < cap → w.cell? (x.add r) = some (.slice (A r) (L r) (C r)) ∧ L r ≤ C r ∧ C r ≤ maxLen ∧ (Z r).length = C r ∧ (∀ n ∈ Z r, (Lit.int .u8 n).wf = true) ∧ (A r = none → C r = 0) ∧
      ∀ a', A r = some a' → base ≤ a'.block ∧ ∀ c, c < C r → w.cell? (a'.add c) = some (.int .u8 ((Z r).getD c 0))) :
    ∃ ls : List (List UInt8), len = ls.length ∧ ls.length ≤ maxLen ∧ Bss w (some x) cap ls := by
  have hM : maxLen = 9223372036854775807 := by decide
  refine ⟨(List.range len).map fun r => ((Z r).take (L r)).map fun n => UInt8.ofNat n.toNat, by simp, by simp; omega, by simpa using hl, by omega, ?_⟩
  by_cases h0 : len = 0
  · left; subst h0; rfl
  · right
    obtain ⟨b, off, spot⟩ := x
    have hc := (hcell 0 (by omega)).1
    have hspot : spot = none := by simpa [Addr.add] using World.cell?_spot hc
    subst hspot
    refine ⟨b, off, rfl, by simpa [Addr.add] using World.block_lt_of_cell? w _ hc, fun k hk => ?_⟩
    simp only [List.length_map, List.length_range] at hk
    obtain ⟨c0, c1, c2, c3, c4, c5, c6⟩ := hcell k (by omega)
    obtain ⟨r1, r2⟩ := row_at c1 c2 c3 c4 c5 c6
    have ea : (Addr.add ⟨b, off, none⟩ k) = ⟨b, off + k, none⟩ := by unfold Addr.add; split <;> simp_all
    rw [ea] at c0
    refine ⟨A k, C k, ?_, ?_⟩
    · rw [c0]
      simp only [List.getElem_map, List.getElem_range, r1]
    · simp only [List.getElem_map, List.getElem_range]
      exact r2

end Go.Proofs.YtcplfengdenllaaDoor
