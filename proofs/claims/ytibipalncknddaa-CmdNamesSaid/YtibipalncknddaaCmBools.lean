/- What is told of a []bool that came in; letters made small. -/
import Derived.Test.YtibipalncknddaaCmStrs
import Derived.Test.YtibipalncknddaaCmNamesPlain
import Derived.Deep.Grids
namespace Go.Proofs.Ytibipalncknddaa
open Go.RowKit Go.Shelf

/-- a slice of Bools. -/
def Bls (w : World) (a : Option Addr) (cap : Nat) (bs : List Bool) : Prop :=
  bs.length ≤ cap ∧ cap ≤ maxLen ∧ (bs = [] ∨ ∃ b off, a = some ⟨b, off, none⟩ ∧ b < w.heap.size ∧ ∀ k, k < bs.length → w.cell? ⟨b, off + k, none⟩ = some (.bool (bs.getD k false)))

theorem bls_none (w : World) : Bls w none 0 [] := ⟨Nat.le_refl _, Nat.zero_le _, .inl rfl⟩

theorem bls_of (w : World) (x : Addr) (len cap : Nat) (B : Nat → Bool) (hl : len ≤ cap) (hm : cap ≤ maxLen) (hcell : ∀ i, i < cap → w.cell? (x.add i) = some (.bool (B i))) :
    ∃ bs : List Bool, len = bs.length ∧ bs.length ≤ maxLen ∧ Bls w (some x) cap bs := by
  refine ⟨(List.range len).map B, by simp, by simp; omega, by simpa using hl, hm, ?_⟩
  by_cases h0 : len = 0
  · left; subst h0; rfl
  · right
    obtain ⟨b, off, spot⟩ := x
    have hc := hcell 0 (by omega)
    have hspot : spot = none := by simpa [Addr.add] using World.cell?_spot hc
    subst hspot
    have hb : b < w.heap.size := by
      rcases Nat.lt_or_ge b w.heap.size with h' | h'
      · exact h'
      · simp [Addr.add, World.cell?, Array.getElem?_eq_none h'] at hc
    refine ⟨b, off, rfl, hb, fun k hk => ?_⟩
    simp at hk
    have h1 := hcell k (by omega)
    have a1 : (Addr.add ⟨b, off, none⟩ k) = ⟨b, off + k, none⟩ := by unfold Addr.add; split <;> simp_all
    rw [a1] at h1
    rw [h1]
    simp [List.getD, hk]

namespace Cm
theorem name_facts : ∀ s ∈ names, upS s = s ∧ (findS (s ++ [90])).isNone = true ∧ (findS s).map Sp.nm = some s := by decide +kernel
theorem find_up {l n : List UInt8} (h : upS l = upS n) : findS l = findS n := by
  unfold findS
  congr 1
  funext s
  simp [hit, h]
theorem cap_low : ∀ n, n < 256 → 65 ≤ n → n ≤ 90 → cap (UInt8.ofNat n + 32) = cap (UInt8.ofNat n) ∧ (UInt8.ofNat n + 32).toNat = n + 32 := by decide +kernel
theorem low_fact {c : UInt8} (h1 : 65 ≤ (c.toNat : Int)) (h2 : (c.toNat : Int) ≤ 90) : cap (c + 32) = cap c ∧ ((c + 32).toNat : Int) = (c.toNat : Int) + 32 := by
  have h := cap_low c.toNat (UInt8.toNat_lt c) (by omega) (by omega)
  rw [UInt8.ofNat_toNat] at h
  exact ⟨h.1, by rw [h.2]; rfl⟩
theorem low_step {l : List UInt8} {k : Nat} (hk : k < l.length) {c : UInt8} (h : cap c = cap (l.getD k 0)) : upS (l.set k c) = upS l := by
  unfold upS
  apply List.ext_getElem
  · simp
  · intro i h1 h2
    by_cases hi : i = k
    · subst hi
      have hk' : i < l.length := by simpa using h2
      simp [h, List.getD, hk']
    · simp [List.getElem_set_ne (fun e => hi e.symm)]
end Cm
end Go.Proofs.Ytibipalncknddaa
