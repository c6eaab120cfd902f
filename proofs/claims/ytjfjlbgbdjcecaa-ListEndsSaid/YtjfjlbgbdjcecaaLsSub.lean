/- The contracts of list.Sub and Set. -/
import Derived.Test.YtjfjlbgbdjcecaaLsPush
namespace Go.Proofs.Ytjfjlbgbdjcecaa
open Go.RowKit Go.Shelf
attribute [local go_sem] Oper.semAt_some
set_option linter.unusedVariables false
set_option linter.unusedSimpArgs false

/-- a part of a slice of words. -/
theorem wds_sub {w : World} {b off cap : Nat} {ws : List Ls.Bs} (h : Wds w (some ⟨b, off, none⟩) cap ws) {f m : Nat} (hf : f ≤ m) (hm : m < ws.length) : Wds w (some ⟨b, off + f, none⟩) (cap - f) ((ws.drop f).take (m + 1 - f)) := by
  have h0 : ((ws.drop f).take (m + 1 - f)).length = m + 1 - f := by rw [List.length_take, List.length_drop]; omega
  obtain ⟨b', off', ha, hb, hc⟩ := h.get (by omega)
  injection ha with ha
  injection ha with e1 e2
  subst e1 e2
  have hcap := h.1
  refine ⟨by rw [h0]; omega, by have := h.2.1; omega, fun s hs => h.2.2.1 s (List.mem_of_mem_drop (List.mem_of_mem_take hs)), .inr ⟨b, off + f, rfl, hb, fun k hk => ?_⟩⟩
  rw [h0] at hk
  rw [show off + f + k = off + (f + k) by omega, hc (f + k) (by omega)]
  have e : ((ws.drop f).take (m + 1 - f)).getD k [] = ws.getD (f + k) [] := by
    rw [List.getD, List.getD, List.getElem?_take, if_pos hk, List.getElem?_drop]
  rw [e]

set_option maxRecDepth 100000 in
set_option maxHeartbeats 2000000 in
theorem sub_any (a : Option Addr) (cap : Nat) (ws : List Ls.Bs) (i k : Int) (w : World) (hF : Wds w a cap ws) (hi : -9223372036854775808 ≤ i) (hi2 : i ≤ 9223372036854775807) (hk : -9223372036854775808 ≤ k) (hk2 : k ≤ 9223372036854775807) (hn : ws.length ≤ 1000000) (ho : ∀ s ∈ ws, s.length ≤ 1000000) :
    Calls Try.prog 19 #[.slice a ws.length cap, .int .i64 i, .int .i64 k] w fun e W => ∃ u, e = .returned u ∧ RowW w u (Ls.subS ws i k) W := by
  have hnI : (ws.length : Int) ≤ 1000000 := by omega
  have HX := Lib.hid (index_any a ws.length cap i w hi hi2 (by omega))
  have HY := Lib.hid (index_any a ws.length cap k w hk hk2 (by omega))
  obtain ⟨b1, b2⟩ := ix_bounds (n := ws.length) hi hi2 (by omega)
  obtain ⟨d1, d2⟩ := ix_bounds (n := ws.length) hk hk2 (by omega)
  have HR : Hid (Ls.subS ws i k = if max (Ls.ix ws.length i) 0 > min (Ls.ix ws.length k) (ws.length - 1) then [] else (ws.drop (max (Ls.ix ws.length i) 0).toNat).take ((min (Ls.ix ws.length k) (ws.length - 1)).toNat + 1 - (max (Ls.ix ws.length i) 0).toNat)) := Lib.hid rfl
  generalize Ls.ix ws.length i = x at *
  generalize Ls.ix ws.length k = y at *
  clear hi hi2 hk hk2
  have hw1 : IntKind.i64.wrap ((ws.length : Int) - 1) = (ws.length : Int) - 1 := IntWalk.i64_in _ (by omega)
  by_cases h : max x 0 > min y ((ws.length : Int) - 1)
  · have hR := HR.out
    rw [if_pos h] at hR
    have HR2 := Lib.hid hR
    have hlt : min y ((ws.length : Int) - 1) < max x 0 := h
    clear hR h HR
    go_enter Try.func19, Try.ntmps19
    go_wp2_with fail
    with_reducible refine HX.out.mono ?_
    rintro e w1 ⟨rfl, rfl⟩
    go_wp2_with fail
    with_reducible refine HY.out.mono ?_
    rintro e w1 ⟨rfl, rfl⟩
    go_wp2_with fail
    go_ret
    exact ⟨_, rfl, by rw [HR2.out]; exact RowW.none (Below.refl _ _)⟩
  · have hR := HR.out
    rw [if_neg h] at hR
    obtain ⟨F, hF'⟩ : ∃ F : Nat, max x 0 = (F : Int) := ⟨(max x 0).toNat, by omega⟩
    obtain ⟨M, hM'⟩ : ∃ M : Nat, min y ((ws.length : Int) - 1) = (M : Int) := ⟨(min y ((ws.length : Int) - 1)).toNat, by omega⟩
    rw [hF', hM'] at hR h
    rw [Int.toNat_natCast, Int.toNat_natCast] at hR
    have hFM : F ≤ M := by omega
    have hMn : M < ws.length := by omega
    obtain ⟨b, off, rfl, hb, hc⟩ := hF.get (by omega)
    have hcap := hF.1
    have hcap2 := hF.2.1
    obtain ⟨w1, k1, hB, k3⟩ := one_walk false (some ⟨b, off + F, none⟩) (cap - F) ((ws.drop F).take (M + 1 - F)) w (wds_sub hF hFM hMn) (by rw [List.length_take, List.length_drop]; omega) (fun s hs => ho s (List.mem_of_mem_drop (List.mem_of_mem_take hs)))
    rw [Ls.dirL_front, ← hR] at k3
    rw [show ((ws.drop F).take (M + 1 - F)).length = M + 1 - F by rw [List.length_take, List.length_drop]; omega] at k1
    have K1 := Lib.hid k1
    have K3 := Lib.hid k3
    have f1 : (F : Int) ≤ (M : Int) := by omega
    have f2 : (M : Int) < (ws.length : Int) := by omega
    have f3 : (ws.length : Int) ≤ (cap : Int) := by omega
    have f4 : (cap : Int) ≤ 9223372036854775807 := by omega
    have hw2 : IntKind.i64.wrap ((M : Int) + 1) = (M : Int) + 1 := IntWalk.i64_in _ (by omega)
    have hne : ¬ (M : Int) < (F : Int) := by omega
    clear hR h HR k1 k3 hc hF ho
    generalize gfB false = gf at K1 K3
    go_enter Try.func19, Try.ntmps19
    go_wp2_with fail
    with_reducible refine HX.out.mono ?_
    rintro e w1 ⟨rfl, rfl⟩
    go_wp2_with fail
    with_reducible refine HY.out.mono ?_
    rintro e w1 ⟨rfl, rfl⟩
    go_wp2_with fail
    with_reducible refine K1.out.mono ?_
    rintro e w1' ⟨rfl, rfl⟩
    go_wp2_with fail
    with_reducible refine K3.out.mono ?_
    rintro e w3 ⟨u, rfl, hr⟩
    have HR := Lib.hid hr
    clear hr
    go_wp2_with fail
    go_ret
    exact ⟨u, rfl, HR.out⟩

/-- an element of an own row is set. -/
theorem rowW_setAt {w W W' : World} {u : Value} {ws : List Ls.Bs} (h : RowW w u ws W) (hb : Below W.heap.size W W') {j : Nat} (hj : j < ws.length) (v : Ls.Bs) :
    ∃ g cap, u = .slice (some ⟨g, 0, none⟩) ws.length cap ∧ cap ≤ 9223372036854775807 ∧ W'.cell? ⟨g, j, none⟩ = some (.string ⟨(ws.getD j []).toArray⟩) ∧ W'.frozen? ⟨g, j, none⟩ = false ∧ RowW w u (ws.set j v) (W'.setCell ⟨g, j, none⟩ (.string ⟨v.toArray⟩)) := by
  have h' := h.later hb
  have ho := h'.1
  rcases ho.2 with ⟨-, hz⟩ | ⟨g, cap, cur, rfl, hg, hgg, hnc, hcm, hcs, htk⟩
  · omega
  · refine ⟨g, cap, rfl, by unfold maxLen at hcm; omega, ?_, ho.frozenAt j, ⟨?_, ?_⟩⟩
    · rw [cell_of_row W' g j cur 9 (0, 0) hgg]
      have := congrArg (fun l : List Value => l[j]?) htk
      simp only [Nat.mul_one] at this
      simp [hj, wcells] at this
      rw [this, getD_eq hj]
    · have := (ho.stored j (.string ⟨v.toArray⟩)).1
      rw [List.length_set]
      rwa [show (wcells ws).set j (.string ⟨v.toArray⟩) = wcells (ws.set j v) by simp [wcells, List.map_set]] at this
    · exact h'.2.setCell (p := ⟨g, j, none⟩) hg _

set_option maxRecDepth 100000 in
set_option maxHeartbeats 2000000 in
theorem set_any (a : Option Addr) (cap : Nat) (ws : List Ls.Bs) (i : Int) (v : Ls.Bs) (w : World) (hF : Wds w a cap ws) (hi : -9223372036854775808 ≤ i) (hi2 : i ≤ 9223372036854775807) (hn : ws.length ≤ 1000000) (ho : ∀ s ∈ ws, s.length ≤ 1000000) (hv : v.length ≤ 1000000) :
    Calls Try.prog 12 #[.slice a ws.length cap, .int .i64 i, .string ⟨v.toArray⟩] w fun e W => ∃ u, e = .returned (.tuple #[u, .bool (Ls.isAt ws.length i)]) ∧ RowW w u (Ls.setS ws i v) W := by
  have hnI : (ws.length : Int) ≤ 1000000 := by omega
  have HX := Lib.hid (index_any a ws.length cap i w hi hi2 (by omega))
  obtain ⟨b1, b2⟩ := ix_bounds (n := ws.length) hi hi2 (by omega)
  by_cases h : 0 ≤ Ls.ix ws.length i ∧ Ls.ix ws.length i < ws.length
  · have hA : Ls.isAt ws.length i = true := by unfold Ls.isAt; rw [decide_eq_true h.1, decide_eq_true h.2]; rfl
    have HR := Lib.hid (show Ls.setS ws i v = ws.set (Ls.ix ws.length i).toNat v by unfold Ls.setS; rw [hA]; rfl)
    have HA := Lib.hid hA
    obtain ⟨j, hj⟩ : ∃ j : Nat, Ls.ix ws.length i = (j : Int) := ⟨(Ls.ix ws.length i).toNat, by omega⟩
    have hjn : j < ws.length := by omega
    have hjI : (j : Int) < (ws.length : Int) := by omega
    have HC := Lib.hid (fun W => clone_any v W (by omega))
    rw [hj] at HX HR b1 b2
    rw [Int.toNat_natCast] at HR
    obtain ⟨w1, k1, hB, k3⟩ := one_walk false a cap ws w hF hn ho
    rw [Ls.dirL_front] at k3
    have K1 := Lib.hid k1
    have K3 := Lib.hid k3
    clear hA h hj hF hi hi2 k1 k3
    generalize gfB false = gf at K1 K3
    go_enter Try.func12, Try.ntmps12
    go_wp2_with fail
    with_reducible refine HX.out.mono ?_
    rintro e w1' ⟨rfl, rfl⟩
    go_wp2_with fail
    with_reducible refine K1.out.mono ?_
    rintro e w1' ⟨rfl, rfl⟩
    go_wp2_with fail
    with_reducible refine K3.out.mono ?_
    rintro e w3 ⟨u, rfl, hr⟩
    obtain ⟨g0, cap0, hu0, hcap0, -⟩ := rowW_setAt hr (Below.refl _ _) hjn v
    subst hu0
    have HR3 := Lib.hid hr
    clear hr
    go_wp2_with fail
    with_reducible refine (HC.out _).mono ?_
    rintro e w4 ⟨rfl, hb⟩
    obtain ⟨g1, cap1, hu1, -, c1, f1, hR1⟩ := rowW_setAt HR3.out hb hjn v
    injection hu1 with hu1 _ hc1
    injection hu1 with hu1
    injection hu1 with hu1
    subst hu1 hc1
    have HR4 := Lib.hid hR1
    clear hb hR1
    go_wp2_with fail
    go_ret2
    exact ⟨_, by rw [HA.out]; rfl, by rw [HR.out]; exact HR4.out⟩
  · have hA : Ls.isAt ws.length i = false := by
      unfold Ls.isAt
      by_cases h0 : 0 ≤ Ls.ix ws.length i
      · rw [decide_eq_true h0, decide_eq_false (fun h1 => h ⟨h0, h1⟩)]; rfl
      · rw [decide_eq_false h0]; rfl
    have HR := Lib.hid (show Ls.setS ws i v = [] by unfold Ls.setS; rw [hA]; rfl)
    have HA := Lib.hid hA
    generalize Ls.ix ws.length i = j at *
    clear hA hF hi hi2
    by_cases h0 : j < 0
    · clear h
      go_enter Try.func12, Try.ntmps12
      go_wp2_with (go_at_call 22; with_reducible refine HX.out.mono ?_; rintro e w1 ⟨rfl, rfl⟩)
      go_ret2
      exact ⟨_, by rw [HA.out]; rfl, by rw [HR.out]; exact RowW.none (Below.refl _ _)⟩
    · have h1 : (ws.length : Int) ≤ j := by omega
      clear h
      go_enter Try.func12, Try.ntmps12
      go_wp2_with (go_at_call 22; with_reducible refine HX.out.mono ?_; rintro e w1 ⟨rfl, rfl⟩)
      go_ret2
      exact ⟨_, by rw [HA.out]; rfl, by rw [HR.out]; exact RowW.none (Below.refl _ _)⟩
end Go.Proofs.Ytjfjlbgbdjcecaa
