/- How many are together and in common. No program in it. -/
import Derived.Test.YtekdmnecjgpokaaStPlain
namespace Go.Proofs.Ytekdmnecjgpokaa
set_option linter.unusedVariables false
set_option linter.unusedSimpArgs false
namespace St
open It Mk

theorem has_congr {l m : List Bs} {s t : Bs} (h : s ∈ l ↔ t ∈ m) : hasB l s = hasB m t := by
  rw [Bool.eq_iff_iff, has_iff, has_iff]
  exact h
theorem has_uni (A B : List Bs) (s : Bs) : hasB (uniS [A, B]) s = (hasB A s || hasB B s) := by
  rw [Bool.eq_iff_iff, Bool.or_eq_true, has_iff, has_iff, has_iff, mem_uni]
  simp
theorem has_both (A B : List Bs) (s : Bs) : hasB (bothS [A, B]) s = (hasB A s && hasB B s) := by
  rw [Bool.eq_iff_iff, Bool.and_eq_true, has_iff, has_iff, has_iff, mem_both]
  simp
theorem cnt_filter (p : Bs → Bool) : ∀ A : List Bs, (A.filter fun x => !p x).length + (A.filter p).length = A.length
  | [] => rfl
  | x :: A => by
    have ih := cnt_filter p A
    cases h : p x <;> simp [List.filter_cons, h] <;> omega
theorem cnt_min (A B : List Bs) : (minS A [B]).length + (bothS [A, B]).length = A.length := by
  have h := cnt_filter (fun x => hasB B x) A
  simpa [minS, bothS] using h
theorem cnt_uni {A B : List Bs} (ha : upS A) (hb : upS B) : (uniS [A, B]).length = B.length + (minS A [B]).length := by
  have hn : (B ++ minS A [B]).Nodup := by
    rw [List.nodup_append]
    refine ⟨up_nodup hb, up_nodup (min_up [B] ha), fun x hx y hy e => ?_⟩
    subst e
    exact (mem_min.1 hy).2 B (by simp) hx
  have hp : (uniS [A, B]).Perm (B ++ minS A [B]) := by
    rw [List.perm_ext_iff_of_nodup (up_nodup (uni_up _)) hn]
    intro x
    rw [mem_uni, List.mem_append, mem_min]
    by_cases hx : x ∈ B <;> simp [hx]
  rw [hp.length_eq, List.length_append]
end St
end Go.Proofs.Ytekdmnecjgpokaa
