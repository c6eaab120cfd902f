/- What is told of a []string that came in, as words. -/
import Derived.Test.YtcplfengdenllaaDoorRpWords
namespace Go.Proofs.YtcplfengdenllaaDoor
open Go.RowKit Go.Shelf

/-- a slice of strings. -/
def Strs (w : World) (a : Option Addr) (cap : Nat) (ss : List ByteArray) : Prop :=
  ss.length ≤ cap ∧ cap ≤ maxLen ∧ (∀ s ∈ ss, s.size ≤ maxLen) ∧ (ss = [] ∨ ∃ b off, a = some ⟨b, off, none⟩ ∧ b < w.heap.size ∧ ∀ k, k < ss.length → w.cell? ⟨b, off + k, none⟩ = some (.string (ss.getD k ByteArray.empty)))

theorem strs_none (w : World) : Strs w none 0 [] := ⟨Nat.le_refl _, Nat.zero_le _, fun s hs => by simp at hs, .inl rfl⟩

/-- the elements of a slice of strings that came in. -/
theorem strs_of (w : World) (x : Addr) (len cap : Nat) (ss : List ByteArray) (hl : len ≤ cap) (hm : cap ≤ maxLen) (hz : len ≤ ss.length)
    (hcell : ∀ i, i < ss.length → w.cell? (x.add i) = some (.string (ss.getD i ByteArray.empty))) (hws : ∀ s ∈ ss, s.size ≤ maxLen) :
    ∃ ts : List ByteArray, len = ts.length ∧ ts.length ≤ maxLen ∧ Strs w (some x) cap ts := by
  have hlen : (ss.take len).length = len := by simp; omega
  refine ⟨ss.take len, hlen.symm, by rw [hlen]; omega, by rw [hlen]; exact hl, hm, fun s hs => hws s (List.mem_of_mem_take hs), ?_⟩
  by_cases h0 : len = 0
  · left; subst h0; simp
  · right
    obtain ⟨b, off, spot⟩ := x
    have hc := hcell 0 (by omega)
    have hspot : spot = none := by simpa [Addr.add] using World.cell?_spot hc
    subst hspot
    have hb : b < w.heap.size := by
      rcases Nat.lt_or_ge b w.heap.size with h' | h'
      · exact h'
      · simp [Addr.add, World.cell?, Array.getElem?_eq_none h'] at hc
    refine ⟨b, off, rfl, hb, fun k hk => ?_⟩
    rw [hlen] at hk
    have h1 := hcell k (by omega)
    have a1 : (Addr.add ⟨b, off, none⟩ k) = ⟨b, off + k, none⟩ := by unfold Addr.add; split <;> simp_all
    rw [a1] at h1
    rw [h1]
    simp [List.getD, hk]

/-- .. as words. -/
theorem Strs.words {w : World} {a : Option Addr} {cap : Nat} {ss : List ByteArray} (h : Strs w a cap ss) : Wl w a cap (ss.map fun s => s.data.toList) := by
  obtain ⟨h0, h1, h2, h3⟩ := h
  have hM : maxLen = 9223372036854775807 := by decide
  refine ⟨by simpa using h0, by omega, ?_, ?_⟩
  · intro l hl
    obtain ⟨s, hs, rfl⟩ := List.mem_map.1 hl
    have := h2 s hs
    have e : s.data.toList.length = s.size := by simp
    omega
  · rcases h3 with rfl | ⟨b, off, ha, hlt, hc⟩
    · exact .inl rfl
    · refine .inr ⟨b, off, ha, hlt, fun k hk => ?_⟩
      rw [List.length_map] at hk
      rw [hc k hk]
      simp [List.getD, hk]

end Go.Proofs.YtcplfengdenllaaDoor
