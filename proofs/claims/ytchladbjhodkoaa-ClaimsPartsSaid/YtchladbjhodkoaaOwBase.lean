/- What is told of a []Claim in memory; the contract of claims.continues. -/
import Derived.Test.YtchladbjhodkoaaSpRef
import Derived.Test.YtchladbjhodkoaaOwPlain
import Derived.IntWalk
namespace Go.Proofs.Ytchladbjhodkoaa
open Go.RowKit

namespace Ow
/-- each number fits an int. -/
def FitC (c : C) : Prop := -9223372036854775808 ≤ c.f ∧ c.f ≤ 9223372036854775807 ∧ -9223372036854775808 ≤ c.t ∧ c.t ≤ 9223372036854775807 ∧ -9223372036854775808 ≤ c.n ∧ c.n ≤ 9223372036854775807 ∧ -9223372036854775808 ≤ c.e ∧ c.e ≤ 9223372036854775807

theorem fit_ok {c : C} (h : okC c) : FitC c := by
  unfold okC at h; unfold FitC; omega

theorem fit_all {l : List C} (h : VL l) : ∀ c ∈ l, FitC c := fun c hc => fit_ok (h.all c hc)
end Ow

/-- the four cells of a claim. -/
def C4 (w : World) (b o : Nat) (c : Ow.C) : Prop :=
  w.cell? ⟨b, o, none⟩ = some (.int .i64 c.f) ∧ w.cell? ⟨b, o + 1, none⟩ = some (.int .i64 c.t) ∧ w.cell? ⟨b, o + 2, none⟩ = some (.int .i64 c.n) ∧ w.cell? ⟨b, o + 3, none⟩ = some (.int .i64 c.e)

/-- What is told of a slice of claims: so many times four cells hold these claims. -/
def Cls (w : World) (a : Option Addr) (cap : Nat) (l : List Ow.C) : Prop :=
  l.length ≤ cap ∧ cap ≤ 9223372036854775807 ∧ (∀ c ∈ l, Ow.FitC c) ∧
  (l = [] ∨ ∃ b off, a = some ⟨b, off, none⟩ ∧ b < w.heap.size ∧ ∀ k, k < l.length → C4 w b (off + k * 4) (l.getD k Ow.z))

theorem C4.later {w w' : World} {b o : Nat} {c : Ow.C} (h : C4 w b o c) (hlt : b < w.heap.size) (hb : Below w.heap.size w w') : C4 w' b o c := by
  obtain ⟨h1, h2, h3, h4⟩ := h
  exact ⟨(hb.cell (p := ⟨b, o, none⟩) hlt).trans h1, (hb.cell (p := ⟨b, o + 1, none⟩) hlt).trans h2, (hb.cell (p := ⟨b, o + 2, none⟩) hlt).trans h3, (hb.cell (p := ⟨b, o + 3, none⟩) hlt).trans h4⟩

theorem Cls.later {w w' : World} {a : Option Addr} {cap : Nat} {l : List Ow.C} (h : Cls w a cap l) (hb : Below w.heap.size w w') : Cls w' a cap l := by
  obtain ⟨h0, h1, h2, h3⟩ := h
  refine ⟨h0, h1, h2, ?_⟩
  rcases h3 with h3 | ⟨b, off, ha, hlt, hc⟩
  · exact .inl h3
  · exact .inr ⟨b, off, ha, Nat.lt_of_lt_of_le hlt hb.size, fun k hk => (hc k hk).later hlt hb⟩

theorem cls_nil (w : World) : Cls w none 0 [] := ⟨Nat.le_refl _, by omega, by simp, .inl rfl⟩

/-- the cells of a claim in a slice. -/
theorem Cls.cells {w : World} {a : Option Addr} {cap : Nat} {l : List Ow.C} (h : Cls w a cap l) {k : Nat} (hk : k < l.length) :
    ∃ b off, a = some ⟨b, off, none⟩ ∧ b < w.heap.size ∧ C4 w b (off + k * 4) (l.getD k Ow.z) := by
  obtain ⟨_, _, _, h3⟩ := h
  rcases h3 with rfl | ⟨b, off, ha, hb, hc⟩
  · simp at hk
  · exact ⟨b, off, ha, hb, hc k hk⟩

theorem Cls.fit {w : World} {a : Option Addr} {cap : Nat} {l : List Ow.C} (h : Cls w a cap l) {k : Nat} (hk : k < l.length) : Ow.FitC (l.getD k Ow.z) := by
  have e : l.getD k Ow.z = l[k] := by simp [List.getD, hk]
  rw [e]
  exact h.2.2.1 _ (List.getElem_mem hk)

set_option maxHeartbeats 2000000 in
theorem continues_any (b c : Ow.C) (w : World) (h1 : -9223372036854775808 ≤ b.t) (h2 : b.t < 9223372036854775807) :
    Calls Try.prog 32 #[.agg #[.int .i64 b.f, .int .i64 b.t, .int .i64 b.n, .int .i64 b.e], .agg #[.int .i64 c.f, .int .i64 c.t, .int .i64 c.n, .int .i64 c.e]] w fun e w' => e = .returned (.bool (Ow.touch b c)) ∧ Below w.heap.size w w' := by
  obtain ⟨q, hq⟩ : ∃ q, Ow.touch b c = q := ⟨_, rfl⟩
  rw [hq]
  have ew : IntKind.i64.wrap (b.t + 1) = b.t + 1 := IntWalk.i64_in _ (by omega)
  have HQ := Lib.hid hq
  clear hq
  obtain ⟨bf, bt, bn, be⟩ := b
  obtain ⟨cf, ct, cn, ce⟩ := c
  simp only at ew h1 h2 ⊢
  by_cases d1 : cf = bt + 1
  · by_cases d2 : cn = bn
    · by_cases d3 : ce = be
      · obtain rfl : q = true := by rw [← HQ.out]; exact Ow.touch_iff.2 ⟨d1, d2, d3⟩
        subst d1 d2 d3
        go_enter Try.func32, Try.ntmps32
        go_wp2
        go_ret
        exact ⟨rfl, ((Below.refl _ _).alloc (Nat.le_refl _) _).alloc (by simp) _⟩
      · obtain rfl : q = false := by rw [← HQ.out, Bool.eq_false_iff]; intro h; exact d3 (Ow.touch_iff.1 h).2.2
        subst d1 d2
        go_enter Try.func32, Try.ntmps32
        go_wp2
        go_ret
        exact ⟨by simp [d3], ((Below.refl _ _).alloc (Nat.le_refl _) _).alloc (by simp) _⟩
    · obtain rfl : q = false := by rw [← HQ.out, Bool.eq_false_iff]; intro h; exact d2 (Ow.touch_iff.1 h).2.1
      subst d1
      go_enter Try.func32, Try.ntmps32
      go_wp2
      go_ret
      exact ⟨rfl, ((Below.refl _ _).alloc (Nat.le_refl _) _).alloc (by simp) _⟩
  · obtain rfl : q = false := by rw [← HQ.out, Bool.eq_false_iff]; intro h; exact d1 (Ow.touch_iff.1 h).1
    go_enter Try.func32, Try.ntmps32
    go_wp2
    go_ret
    exact ⟨rfl, ((Below.refl _ _).alloc (Nat.le_refl _) _).alloc (by simp) _⟩
end Go.Proofs.Ytchladbjhodkoaa
