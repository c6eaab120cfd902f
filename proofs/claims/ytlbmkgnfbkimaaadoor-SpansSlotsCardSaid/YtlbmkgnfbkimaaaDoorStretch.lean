/- The contracts of spans.stretch and spans.behind. -/
import Derived.Test.YtlbmkgnfbkimaaaDoorPiecePlain
import Derived.Test.YtlbmkgnfbkimaaaDoorSpRef
import Derived.Deep.QuietTactic
import Derived.BigQuiet
import Derived.IntWalk
namespace Go.Proofs.YtlbmkgnfbkimaaaDoor
open Go.RowKit

set_option maxHeartbeats 2000000 in
theorem stretch_any (a : Option Addr) (cap : Nat) (l : List Sp.S) (n : Int) (w : World) (hS : Spans w a cap l) (hv : Sp.Valid l) :
    Calls Tryd.prog 68 #[.slice a l.length cap, .int .i64 n] w fun e w' => e = .returned (.tuple #[.bool (Sp.stretchP l n).1, .int .i64 (Sp.stretchP l n).2]) ∧ Below w.heap.size w w' := by
  obtain ⟨hc, hm, hr, hx⟩ := hS
  cases l with
  | nil =>
    clear hx hr hm hv
    go_enter Tryd.func68, Tryd.ntmps68
    go_wp2
    go_ret2
    exact ⟨rfl, Below.refl _ _⟩
  | cons s r =>
    obtain ⟨x, y⟩ := s
    rcases hx with hx | ⟨b, off, rfl, hb, hcell⟩
    · simp at hx
    · have hs := hv.1 (x, y) (by simp)
      obtain ⟨c1, c2⟩ := hcell 0 (by simp)
      simp only [List.getD_cons_zero, Nat.zero_mul, Nat.add_zero] at c1 c2 hs
      have ew : IntKind.i64.wrap (x - 1) = x - 1 := IntWalk.i64_in _ (by omega)
      have hlen : (0 : Int) < ((r.length + 1 : Nat) : Int) := by omega
      have hlen2 : r.length + 1 ≤ 9223372036854775807 := by simpa using hm
      clear hcell hr hv hm
      simp only [List.length_cons]
      by_cases hn : n < x
      · have e : Sp.stretchP ((x, y) :: r) n = (false, x - 1) := by simp [Sp.stretchP, hn]
        rw [e]
        go_enter Tryd.func68, Tryd.ntmps68
        go_upto_region 4 with (fail)
        go_quiet (fail)
        go_wp2
        go_ret2
        exact ⟨rfl, below_drewN (Below.refl _ _) _⟩
      · have e : Sp.stretchP ((x, y) :: r) n = (true, y) := by simp [Sp.stretchP, hn]
        rw [e]
        go_enter Tryd.func68, Tryd.ntmps68
        go_upto_region 5 with (fail)
        go_quiet (fail)
        go_wp2
        go_ret2
        exact ⟨rfl, below_drewN (Below.refl _ _) _⟩

/-- a list without its first span, as it lies. -/
theorem spans_tail {w : World} {b off cap : Nat} {s : Sp.S} {r : List Sp.S} (hc : r.length + 1 ≤ cap) (hm : r.length + 1 ≤ 9223372036854775807)
    (hr : ∀ t ∈ s :: r, -9223372036854775808 ≤ t.1 ∧ t.1 ≤ 9223372036854775807 ∧ -9223372036854775808 ≤ t.2 ∧ t.2 ≤ 9223372036854775807) (hb : b < w.heap.size)
    (hcell : ∀ k, k < r.length + 1 → w.cell? ⟨b, off + k * 2, none⟩ = some (.int .i64 ((s :: r).getD k (0, 0)).1) ∧ w.cell? ⟨b, off + k * 2 + 1, none⟩ = some (.int .i64 ((s :: r).getD k (0, 0)).2)) :
    Spans w (some ⟨b, off + 2, none⟩) (cap - 1) r := by
  refine ⟨by omega, by omega, fun t ht => hr t (by simp [ht]), .inr ⟨b, off + 2, rfl, hb, fun k hk => ?_⟩⟩
  have := hcell (k + 1) (by omega)
  rw [show off + (k + 1) * 2 = off + 2 + k * 2 by omega] at this
  simpa using this

set_option maxHeartbeats 2000000 in
theorem behind_any (a : Option Addr) (cap : Nat) (l : List Sp.S) (n : Int) (w : World) (hcap : cap ≤ 9223372036854775807) (hS : Spans w a cap l) :
    Calls Tryd.prog 69 #[.slice a l.length cap, .int .i64 n] w fun e w' => ∃ a' cap', e = .returned (.slice a' (Sp.behindP l n).length cap') ∧ cap' ≤ 9223372036854775807 ∧ Spans w' a' cap' (Sp.behindP l n) ∧ (∀ x, a' = some x → ∃ y, a = some y ∧ y.block = x.block) ∧ Below w.heap.size w w' := by
  have HS := Lib.hid hS
  obtain ⟨hc, hm, hr, hx⟩ := hS
  cases l with
  | nil =>
    clear hx hr hm
    go_enter Tryd.func69, Tryd.ntmps69
    go_wp2
    go_ret
    exact ⟨a, cap, rfl, hcap, HS.out, fun x h => ⟨x, h, rfl⟩, Below.refl _ _⟩
  | cons s r =>
    obtain ⟨x, y⟩ := s
    rcases hx with hx | ⟨b, off, rfl, hb, hcell⟩
    · simp at hx
    · obtain ⟨c1, c2⟩ := hcell 0 (by simp)
      simp only [List.getD_cons_zero, Nat.zero_mul, Nat.add_zero] at c1 c2
      have hlen : (0 : Int) < ((r.length + 1 : Nat) : Int) := by omega
      have hlen2 : r.length + 1 ≤ 9223372036854775807 := by simpa using hm
      have hcc : r.length + 1 ≤ cap := by simpa using hc
      have HT := Lib.hid (spans_tail (s := (x, y)) (r := r) hcc hlen2 hr hb (by simpa using hcell))
      clear hcell hr hm hc
      by_cases hn : y ≤ n
      · have e : Sp.behindP ((x, y) :: r) n = r := by simp [Sp.behindP, hn]
        rw [e]
        simp only [List.length_cons]
        by_cases hc1 : cap = 1
        · have hr0 : r = [] := List.eq_nil_of_length_eq_zero (by omega)
          subst hr0 hc1
          clear HT HS
          go_enter Tryd.func69, Tryd.ntmps69
          go_wp2
          go_ret
          exact ⟨_, _, rfl, by omega, ⟨by simp, by simp, by simp, .inl rfl⟩, by intro x h; cases h; first | exact ⟨_, rfl, rfl⟩ | rfl | simp, Below.refl _ _⟩
        · go_enter Tryd.func69, Tryd.ntmps69
          go_wp2
          go_ret
          exact ⟨_, _, rfl, by omega, HT.out, by intro x h; cases h; first | exact ⟨_, rfl, rfl⟩ | rfl | simp, Below.refl _ _⟩
      · have e : Sp.behindP ((x, y) :: r) n = (x, y) :: r := by simp [Sp.behindP, hn]
        rw [e]
        simp only [List.length_cons]
        go_enter Tryd.func69, Tryd.ntmps69
        go_wp2
        go_ret
        exact ⟨_, _, rfl, hcap, HS.out, by intro x h; cases h; first | exact ⟨_, rfl, rfl⟩ | rfl | simp, Below.refl _ _⟩
end Go.Proofs.YtlbmkgnfbkimaaaDoor
