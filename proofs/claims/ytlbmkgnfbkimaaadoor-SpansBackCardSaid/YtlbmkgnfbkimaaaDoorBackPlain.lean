/- Plain: a valid list and one slot. -/
import Derived.Test.YtlbmkgnfbkimaaaDoorCntPlain
namespace Go.Proofs.YtlbmkgnfbkimaaaDoor
namespace Sp

theorem one_valid {k : Int} (h0 : 0 ≤ k) (h1 : k < 16384) : Valid [(k, k)] := by
  refine ⟨fun s hs => ?_, by simp⟩
  simp only [List.mem_singleton] at hs
  subst hs
  exact ⟨h0, Int.le_refl _, h1⟩

theorem one_has {k n : Int} (h0 : 0 ≤ n) (h1 : n < 16384) : hasB [(k, k)] n = decide (n = k) := by
  have : hasB [(k, k)] n = inB n (k, k) := by simp [hasB]
  rw [this, inB_iff h0 h1]
  apply decide_eq_decide.2
  simp only; omega

theorem one_sum {k : Int} (h0 : 0 ≤ k) (h1 : k < 16384) : sumS (mixS 0 [(k, k)] []) = 1 := by
  rw [Tx.mix_self (one_valid h0 h1)]
  simp [sumS]

theorem nil_has (n : Int) : hasB ([] : List S) n = false := rfl

theorem both_one {L : List S} {k : Int} (h0 : 0 ≤ k) (h1 : k < 16384) (h : hasB L k = true) : sumS (mixS 2 L [(k, k)]) = 1 := by
  rw [mix_eq (how' := 0) (a' := [(k, k)]) (b' := []) (fun n g0 g1 => ?_), one_sum h0 h1]
  rw [one_has g0 g1, nil_has]
  by_cases hn : n = k
  · subst hn; rw [h]; simp [cnd]
  · rw [decide_eq_false hn]; simp [cnd]

theorem both_none {L : List S} {k : Int} (h : hasB L k = false) : sumS (mixS 2 L [(k, k)]) = 0 := by
  rw [mix_eq (how' := 0) (a' := []) (b' := []) (fun n g0 g1 => ?_), Tx.mix_self ⟨by simp, by simp⟩]
  · rfl
  · rw [one_has g0 g1, nil_has]
    by_cases hn : n = k
    · subst hn; rw [h]; simp [cnd]
    · rw [decide_eq_false hn]; simp [cnd]

theorem more_has {L : List S} {k : Int} (h0 : 0 ≤ k) (h1 : k < 16384) : hasB (mixS 0 L [(k, k)]) k = true := by
  rw [mix_has h0 h1, one_has h0 h1]; simp [cnd]

theorem less_has {L : List S} {k : Int} (h0 : 0 ≤ k) (h1 : k < 16384) : hasB (mixS 1 L [(k, k)]) k = false := by
  rw [mix_has h0 h1, one_has h0 h1]; simp [cnd]

theorem back_more {L : List S} {k : Int} (h : hasB L k = true) : mixS 0 (mixS 1 L [(k, k)]) [(k, k)] = mixS 0 L [] := mix_eq fun n g0 g1 => by
  rw [mix_has g0 g1, one_has g0 g1, nil_has]
  by_cases hn : n = k
  · subst hn; rw [h]; simp [cnd]
  · rw [decide_eq_false hn]; simp [cnd]

theorem back_less {L : List S} {k : Int} (h : hasB L k = false) : mixS 1 (mixS 0 L [(k, k)]) [(k, k)] = mixS 0 L [] := mix_eq fun n g0 g1 => by
  rw [mix_has g0 g1, one_has g0 g1, nil_has]
  by_cases hn : n = k
  · subst hn; rw [h]; simp [cnd]
  · rw [decide_eq_false hn]; simp [cnd]

end Sp

theorem textTo_bound {m : List Sp.S} (h : ∀ s ∈ m, 0 ≤ s.1 ∧ s.1 ≤ s.2 ∧ s.2 < 16384) : ∀ k, k ≤ m.length → (textTo m k).length ≤ 12 * k
  | 0, _ => by simp [textTo]
  | k + 1, hk => by
    have ih := textTo_bound h k (by omega)
    have hs := h (m.getD k (0, 0)) (by simp [List.getD, show k < m.length by omega])
    have ho : 0 < (oneT (m.getD k (0, 0))).length ∧ (oneT (m.getD k (0, 0))).length ≤ 11 := oneT_len ⟨m.getD k (0, 0), hs⟩
    rw [textTo, List.length_append, List.length_append]
    have : (if 0 < k then [(44 : UInt8)] else []).length ≤ 1 := by split <;> simp
    omega
end Go.Proofs.YtlbmkgnfbkimaaaDoor
