/- The contracts of the reference's Of and more. -/
import Derived.Test.YtchladbjhodkoaaOwMark
import Derived.Test.YtchladbjhodkoaaOwAdded
namespace Go.Proofs.Ytchladbjhodkoaa
open Go.RowKit

namespace Ow
theorem own_at : ∀ {l : List C} {k : Nat} {s : Int}, (∀ j, j < k → inC s (l.getD j z) = false) → k < l.length → inC s (l.getD k z) = true → own l s = some ((l.getD k z).n, (l.getD k z).e)
  | [], _, _, _, h, _ => by simp at h
  | c :: r, 0, s, _, _, h => by
    simp only [List.getD_cons_zero] at h ⊢
    simp [own, h]
  | c :: r, k + 1, s, hj, hk, h => by
    have h0 := hj 0 (by omega)
    simp only [List.getD_cons_zero] at h0
    have h1 := own_at (l := r) (k := k) (s := s) (fun j hjk => by have := hj (j + 1) (by omega); simpa using this) (by simpa using hk) (by simpa using h)
    simp only [List.getD_cons_succ]
    rw [← h1]
    simp [own, h0]

theorem own_nowhere {l : List C} {s : Int} (h : ∀ j, j < l.length → inC s (l.getD j z) = false) : own l s = none := by
  refine own_none fun c hc => ?_
  obtain ⟨i, hi, rfl⟩ := List.mem_iff_getElem.1 hc
  have := h i hi
  simpa [List.getD, hi] using this

/-- an owner as the reference has it. -/
def ro : Option O → O
  | none => (-1, 0)
  | some o => o
end Ow

set_option maxRecDepth 100000 in
set_option maxHeartbeats 2000000 in
theorem refOf_any (a : Option Addr) (cap : Nat) (l : List Ow.C) (s : Int) (w : World) (hS : Cls w a cap l) :
    Calls Try.prog 13 #[.slice a l.length cap, .int .i64 s] w fun e w' => e = .returned (.tuple #[.int .i64 (Ow.ro (Ow.own l s)).1, .int .i64 (Ow.ro (Ow.own l s)).2]) ∧ Below w.heap.size w w' := by
  have HS := Lib.hid hS
  have hc1 := hS.1
  have hc2 := hS.2.1
  clear hS
  obtain ⟨x, y, hxy⟩ : ∃ x y, Ow.ro (Ow.own l s) = (x, y) := ⟨_, _, rfl⟩
  rw [hxy]
  have HX := Lib.hid hxy
  clear hxy
  go_enter Try.func13, Try.ntmps13
  go_wp2
  go_loopw [6] (fun i wr => ∃ k : Nat, k ≤ l.length ∧ i = .int .i64 k ∧ Hid (∀ j, j < k → Ow.inC s (l.getD j Ow.z) = false) ∧ Hid (Below w.heap.size w wr)) (fun i _ => l.length - (intOf i).toNat)
  case atStart => exact ⟨0, Nat.zero_le _, rfl, Lib.hid fun j h => by omega, Lib.hid (Below.refl _ _)⟩
  case round =>
    obtain ⟨k, hk, rfl, HE, HB⟩ := hrel
    by_cases hlt : k < l.length
    · obtain ⟨b, off, rfl, hb, c1, c2, c3, c4⟩ := (HS.out.later HB.out).cells hlt
      have k0 : (0 : Int) ≤ (k : Int) := by omega
      have k1 : (k : Int) < (l.length : Int) := by omega
      obtain ⟨⟨f, t, n, e⟩, hy⟩ : ∃ x, l.getD k Ow.z = x := ⟨_, rfl⟩
      rw [hy] at c1 c2 c3 c4
      have HY := Lib.hid hy
      simp only at c1 c2 c3 c4
      clear hy
      by_cases h1 : f ≤ s
      · by_cases h2 : s ≤ t
        · have HO : Hid (n = x ∧ e = y) := Lib.hid (by
            have h3 := Ow.own_at HE.out hlt (by rw [HY.out]; exact Ow.inC_iff.2 ⟨h1, h2⟩)
            have h4 := HX.out
            rw [h3, HY.out] at h4
            simpa [Ow.ro] using h4)
          obtain ⟨rfl, rfl⟩ := HO.out
          go_upto_region 5 with (fail)
          go_quiet (fail)
          go_wp2
          go_ret2
          exact ⟨rfl, below_drewN HB.out _⟩
        · have HN := Lib.hid (show Ow.inC s ⟨f, t, n, e⟩ = false from Ow.inC_not.2 (.inr (by simp only; omega)))
          have h2' : t < s := by omega
          go_wp2
          go_roundw
          case rel =>
            refine ⟨k + 1, by omega, by go_num, Lib.hid fun j hj => ?_, HB⟩
            rcases Nat.lt_or_ge j k with h | h
            · exact HE.out j h
            · obtain rfl : j = k := by omega
              rw [HY.out]; exact HN.out
          case measure => simp [intOf]; omega
      · have HN := Lib.hid (show Ow.inC s ⟨f, t, n, e⟩ = false from Ow.inC_not.2 (.inl (by simp only; omega)))
        have h1' : s < f := by omega
        go_wp2
        go_roundw
        case rel =>
          refine ⟨k + 1, by omega, by go_num, Lib.hid fun j hj => ?_, HB⟩
          rcases Nat.lt_or_ge j k with h | h
          · exact HE.out j h
          · obtain rfl : j = k := by omega
            rw [HY.out]; exact HN.out
        case measure => simp [intOf]; omega
    · have HO : Hid (x = -1 ∧ y = 0) := Lib.hid (by
        have h3 := Ow.own_nowhere (l := l) (s := s) fun j hj => HE.out j (by omega)
        have h4 := HX.out
        rw [h3] at h4
        simp only [Ow.ro, Prod.mk.injEq] at h4
        exact ⟨h4.1.symm, h4.2.symm⟩)
      obtain ⟨rfl, rfl⟩ := HO.out
      go_wp2
      go_ret2
      exact ⟨rfl, HB.out⟩
end Go.Proofs.Ytchladbjhodkoaa
