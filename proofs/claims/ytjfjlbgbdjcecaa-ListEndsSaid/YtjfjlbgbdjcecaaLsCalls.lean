/- The contracts of list.index, Push, At, Sub and Set. -/
import Derived.Test.YtjfjlbgbdjcecaaLsList
import Derived.Laws.OwnMore
namespace Go.Proofs.Ytjfjlbgbdjcecaa
open Go.RowKit Go.Shelf
attribute [local go_sem] Oper.semAt_some
set_option linter.unusedVariables false
set_option linter.unusedSimpArgs false

theorem RowW.lift {w w2 W : World} {u : Value} {xs : List Ls.Bs} (h : RowW w2 u xs W) (hb : Below w.heap.size w w2) : RowW w u xs W := ⟨owns_base h.1 hb.size, hb.trans (h.2.mono hb.size)⟩

/-- list.list of one iterator, in a literal slice. -/
theorem list_of1 (gf : Nat) (lb : Array Value) (xs : List Ls.El) (N : Nat) (w : World) (eg : ∀ args W, (callFunc gf args).run Try.prog W = .ok (.enter gf args) W)
    (hs : SeqB OkE false Try.prog gf lb encE (fun k => k < w.heap.size) (fun _ => False) (fun ys => ys = xs) (fun _ => False) N w) (hN : N ≤ 1000000) (hn : xs.length ≤ 1000000) :
    CallsIn Fence.wide 0 Try.prog 25 #[.slice (some ⟨w.heap.size, 0, none⟩) 1 1] (w.alloc (.cells #[.func (.func gf) #[] lb] 51)) fun e W' => ∃ u, e = .returned u ∧ RowW w u (xs.map (·.2)) W' := by
  have hB : Below w.heap.size w (w.alloc (.cells #[.func (.func gf) #[] lb] 51)) := (Below.refl _ _).alloc (Nat.le_refl _) _
  have h := list_any (some ⟨w.heap.size, 0, none⟩) 1 [(gf, lb, xs)] N (w.alloc (.cells #[.func (.func gf) #[] lb] 51)) ⟨Nat.le_refl _, by decide, .inr ⟨w.heap.size, 0, rfl, by simp, fun k hk => ?_⟩⟩ ?_ hN (by simpa [wkAll] using hn)
  · simp only [wkAll, List.flatMap_cons, List.flatMap_nil, List.append_nil] at h
    exact h.mono fun e W' ⟨u, he, hr⟩ => ⟨u, he, hr.lift hB⟩
  · have : k = 0 := by simp at hk; omega
    subst this
    simp
  · intro x hx
    simp at hx
    subst hx
    exact ⟨eg, hs.later (fun k hk => Nat.lt_of_lt_of_le hk hB.size) hB⟩
/-- list.list of two iterators, in a literal slice. -/
theorem list_of2 (gf : Nat) (lb : Array Value) (xs : List Ls.El) (gf2 : Nat) (lb2 : Array Value) (ys : List Ls.El) (N : Nat) (w : World) (eg : ∀ args W, (callFunc gf args).run Try.prog W = .ok (.enter gf args) W) (eg2 : ∀ args W, (callFunc gf2 args).run Try.prog W = .ok (.enter gf2 args) W)
    (hs : SeqB OkE false Try.prog gf lb encE (fun k => k < w.heap.size) (fun _ => False) (fun zs => zs = xs) (fun _ => False) N w) (hs2 : SeqB OkE false Try.prog gf2 lb2 encE (fun k => k < w.heap.size) (fun _ => False) (fun zs => zs = ys) (fun _ => False) N w) (hN : N ≤ 1000000) (hn : xs.length + ys.length ≤ 1000000) :
    CallsIn Fence.wide 0 Try.prog 25 #[.slice (some ⟨w.heap.size, 0, none⟩) 2 2] (w.alloc (.cells #[.func (.func gf) #[] lb, .func (.func gf2) #[] lb2] 51)) fun e W' => ∃ u, e = .returned u ∧ RowW w u (xs.map (·.2) ++ ys.map (·.2)) W' := by
  have hB : Below w.heap.size w (w.alloc (.cells #[.func (.func gf) #[] lb, .func (.func gf2) #[] lb2] 51)) := (Below.refl _ _).alloc (Nat.le_refl _) _
  have h := list_any (some ⟨w.heap.size, 0, none⟩) 2 [(gf, lb, xs), (gf2, lb2, ys)] N (w.alloc (.cells #[.func (.func gf) #[] lb, .func (.func gf2) #[] lb2] 51)) ⟨Nat.le_refl _, by decide, .inr ⟨w.heap.size, 0, rfl, by simp, fun k hk => ?_⟩⟩ ?_ hN (by simpa [wkAll] using hn)
  · simp only [wkAll, List.flatMap_cons, List.flatMap_nil, List.append_nil, List.map_append] at h
    exact h.mono fun e W' ⟨u, he, hr⟩ => ⟨u, he, hr.lift hB⟩
  · have : k = 0 ∨ k = 1 := by simp at hk; omega
    rcases this with rfl | rfl <;> simp
  · intro x hx
    simp at hx
    rcases hx with rfl | rfl
    · exact ⟨eg, hs.later (fun k hk => Nat.lt_of_lt_of_le hk hB.size) hB⟩
    · exact ⟨eg2, hs2.later (fun k hk => Nat.lt_of_lt_of_le hk hB.size) hB⟩

theorem okI_okE {n : Nat} (x : Ls.El) (h : OkI n x) : OkE x := h.1

set_option maxHeartbeats 1000000 in
theorem index_any (a : Option Addr) (n c : Nat) (i : Int) (w : World) (hi : -9223372036854775808 ≤ i) (hi2 : i ≤ 9223372036854775807) (hn : n ≤ 9223372036854775807) :
    Calls Try.prog 22 #[.slice a n c, .int .i64 i] w fun e w' => e = .returned (.int .i64 (Ls.ix n i)) ∧ w = w' := by
  have hnI : (n : Int) ≤ 9223372036854775807 := by omega
  by_cases h : i < 0
  · have HX := Lib.hid (show Ls.ix n i = i + n from if_pos h)
    have hw : IntKind.i64.wrap (i + (n : Int)) = i + n := IntWalk.i64_in _ (by omega)
    go_enter Try.func22, Try.ntmps22
    go_wp2
    go_ret
    exact ⟨by rw [HX.out]; rfl, rfl⟩
  · have HX := Lib.hid (show Ls.ix n i = i from if_neg h)
    go_enter Try.func22, Try.ntmps22
    go_wp2
    go_ret
    exact ⟨by rw [HX.out]; rfl, rfl⟩

theorem ix_bounds {n : Nat} {i : Int} (hi : -9223372036854775808 ≤ i) (hi2 : i ≤ 9223372036854775807) (hn : n ≤ 9223372036854775807) : -9223372036854775808 ≤ Ls.ix n i ∧ Ls.ix n i ≤ 9223372036854775807 := by
  unfold Ls.ix
  split <;> omega

set_option maxRecDepth 100000 in
set_option maxHeartbeats 2000000 in
theorem at_any (a : Option Addr) (cap : Nat) (ws : List Ls.Bs) (i : Int) (w : World) (hF : Wds w a cap ws) (hi : -9223372036854775808 ≤ i) (hi2 : i ≤ 9223372036854775807) (hok : ∀ s ∈ ws, s.length ≤ 1000000) :
    Calls Try.prog 10 #[.slice a ws.length cap, .int .i64 i] w fun e W => e = .returned (.tuple #[.string ⟨(Ls.atS ws i).toArray⟩, .bool (Ls.isAt ws.length i)]) ∧ Below w.heap.size w W := by
  have hn : ws.length ≤ 9223372036854775807 := Nat.le_trans hF.1 hF.2.1
  have hnI : (ws.length : Int) ≤ 9223372036854775807 := by omega
  have HX := Lib.hid (index_any a ws.length cap i w hi hi2 hn)
  obtain ⟨b1, b2⟩ := ix_bounds hi hi2 hn
  by_cases h : 0 ≤ Ls.ix ws.length i ∧ Ls.ix ws.length i < ws.length
  · have hA : Ls.isAt ws.length i = true := by unfold Ls.isAt; rw [decide_eq_true h.1, decide_eq_true h.2]; rfl
    have HR := Lib.hid (show Ls.atS ws i = ws.getD (Ls.ix ws.length i).toNat [] by unfold Ls.atS; rw [hA]; rfl)
    have HA := Lib.hid hA
    obtain ⟨j, hj⟩ : ∃ j : Nat, Ls.ix ws.length i = (j : Int) := ⟨(Ls.ix ws.length i).toNat, by omega⟩
    have hjn : j < ws.length := by omega
    have hjI : (j : Int) < (ws.length : Int) := by omega
    obtain ⟨b, off, rfl, hb, hc⟩ := hF.get (by omega)
    have c1 := hc j hjn
    have HC := Lib.hid (fun W => clone_any (ws.getD j []) W (by have : (ws.getD j []).length ≤ 1000000 := hok _ (by rw [getD_eq hjn]; exact List.getElem_mem hjn); omega))
    rw [hj] at HX HR b1 b2
    rw [Int.toNat_natCast] at HR
    generalize ws.getD j [] = x at c1 HC HR
    clear hA h hj hc hF hi hi2
    go_enter Try.func10, Try.ntmps10
    go_wp2_with (first
      | (go_at_call 22; with_reducible refine HX.out.mono ?_; rintro e w1 ⟨rfl, rfl⟩)
      | (go_at_call 23; with_reducible refine (HC.out _).mono ?_; rintro e w1 ⟨rfl, hb⟩; have HB := Lib.hid hb; clear hb))
    go_ret2
    exact ⟨by rw [HR.out, HA.out]; rfl, HB.out⟩
  · have hA : Ls.isAt ws.length i = false := by
      unfold Ls.isAt
      by_cases h0 : 0 ≤ Ls.ix ws.length i
      · rw [decide_eq_true h0, decide_eq_false (fun h1 => h ⟨h0, h1⟩)]; rfl
      · rw [decide_eq_false h0]; rfl
    have HR := Lib.hid (show Ls.atS ws i = [] by unfold Ls.atS; rw [hA]; rfl)
    have HA := Lib.hid hA
    generalize Ls.ix ws.length i = j at *
    clear hA hF hi hi2
    by_cases h0 : j < 0
    · clear h
      go_enter Try.func10, Try.ntmps10
      go_wp2_with (go_at_call 22; with_reducible refine HX.out.mono ?_; rintro e w1 ⟨rfl, rfl⟩)
      go_ret2
      exact ⟨by rw [HR.out, HA.out]; rfl, Below.refl _ _⟩
    · have h1 : (ws.length : Int) ≤ j := by omega
      clear h
      go_enter Try.func10, Try.ntmps10
      go_wp2_with (go_at_call 22; with_reducible refine HX.out.mono ?_; rintro e w1 ⟨rfl, rfl⟩)
      go_ret2
      exact ⟨by rw [HR.out, HA.out]; rfl, Below.refl _ _⟩
end Go.Proofs.Ytjfjlbgbdjcecaa
