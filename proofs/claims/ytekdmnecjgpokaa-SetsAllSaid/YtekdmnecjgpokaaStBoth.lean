/- The contract of sets.Both. -/
import Derived.Test.YtekdmnecjgpokaaStUnion
namespace Go.Proofs.Ytekdmnecjgpokaa
open Go.RowKit Go.Shelf
attribute [local go_sem] Oper.semAt_some
set_option linter.unusedVariables false
set_option linter.unusedSimpArgs false

theorem both_in {L : List (List St.Bs)} (h : SetsIn L) : (St.bothS L).length ≤ 400000 ∧ Mk.upS (St.bothS L) ∧ ∀ s ∈ St.bothS L, OkW s := by
  refine ⟨?_, St.both_up h.1, ?_⟩
  · cases L with
    | nil => simp [St.bothS]
    | cons l L =>
      have h1 : (St.bothS (l :: L)).length ≤ l.length := List.length_filter_le _ _
      have h2 := h.2.2
      rw [List.flatten_cons, List.length_append] at h2
      omega
  · intro s hs
    cases L with
    | nil => simp [St.bothS] at hs
    | cons l L => exact h.2.1 l (List.mem_cons_self ..) s (St.mem_both.1 hs).1
theorem both_take {L : List (List St.Bs)} {k : Nat} (h : SetsIn L) (hk : k + 1 < L.length) : St.selS St.andF (St.bothS (L.take (k + 1))) (L.getD (k + 1) []) = St.bothS (L.take (k + 1 + 1)) := by
  cases L with
  | nil => simp at hk
  | cons l L =>
    have hk' : k < L.length := by simpa using hk
    rw [show (l :: L).take (k + 1 + 1) = l :: (L.take k ++ [L.getD k []]) by rw [List.take_succ_cons, take_succ_getD (d := []) hk'], List.take_succ_cons, show (l :: L).getD (k + 1) [] = L.getD k [] by simp]
    exact St.both_more (h.1 l (List.mem_cons_self ..)) (h.1 _ (List.mem_cons_of_mem _ (by rw [getD_eq hk']; exact List.getElem_mem hk')))

/-- Collect of what is chosen of two sets. -/
theorem collect_and (w : World) (a b : Option Addr) (ca cb : Nat) (xs ys : List St.Bs) (h2 : Wds w a ca xs) (h3 : Wds w b cb ys) (hn : xs.length ≤ 400000) (hm : ys.length ≤ 400000) (hok : ∀ s ∈ xs, OkW s) (hok2 : ∀ s ∈ ys, OkW s) (zs : List St.Bs) (hz : St.selS St.andF xs ys = zs) (hzs : ∀ s ∈ zs, OkW s) :
    Calls Try.prog 27 #[.func (.func 38) #[] #[.pointer (some ⟨w.heap.size, 0, none⟩), .pointer (some ⟨w.heap.size + 1, 0, none⟩), .pointer (some ⟨w.heap.size + 2, 0, none⟩)]] (chW w a b xs.length ys.length ca cb 29) (UOut w zs) := by
  obtain ⟨k1, k2⟩ := collect_chosen 29 St.andF and_test a b ca cb xs ys w h2 h3 hn hm hok hok2
  rw [hz] at k1
  refine (callsIn_wide.1 (collect_any 38 _ (enters_of Try.func38 (by kernel_rfl) rfl) _ _ _ _ _ _ (by omega) k1 (Below.refl _ _) (fun k h => h))).mono ?_
  rintro e w4 ⟨v, ys', rfl, rfl, hrow, -, hb4⟩
  obtain ⟨a4, c4, rfl, hwd, -⟩ := wds_of_row hrow (fun s hs => by have : s.length ≤ 1000000 := hzs s hs; omega)
  exact ⟨a4, c4, rfl, hwd, k2.trans (hb4.mono k2.size)⟩

set_option maxRecDepth 100000 in
set_option maxHeartbeats 4000000 in
/-- sets.Both. -/
theorem both_any (L : List (List St.Bs)) (a : Option Addr) (cap : Nat) (w : World) (hW : Wss w a cap L) (hS : SetsIn L) (hL : L.length ≤ 1000) :
    Calls Try.prog 14 #[.slice a L.length cap] w fun e W' => ∃ u, e = .returned u ∧ RowW w u (St.bothS L) W' := by
  rcases Nat.eq_zero_or_pos L.length with h0 | h0
  · obtain rfl : L = [] := List.eq_nil_of_length_eq_zero h0
    clear hW hS h0 hL
    simp only [List.length_nil]
    go_enter Try.func14, Try.ntmps14
    go_wp2
    go_ret
    exact ⟨_, rfl, RowW.none (Below.refl _ _)⟩
  · obtain ⟨b, off, rfl, hb, hc⟩ := hW.get h0
    obtain ⟨q1, q2, q3⟩ := both_in hS
    have HSet : Hid (∀ (W : World) (a : Option Addr) (cap : Nat), Wds W a cap (St.bothS L) → Calls Try.prog 22 #[.func (.func 33) #[] #[.pointer (some ⟨W.heap.size, 0, none⟩)]] (W.alloc (.cells #[.slice a (St.bothS L).length cap] 25)) fun e W' => ∃ u, e = .returned u ∧ RowW (W.alloc (.cells #[.slice a (St.bothS L).length cap] 25)) u (St.bothS L) W') := Lib.hid fun W a cap h =>
      callsIn_wide.1 (set_any 33 #[.pointer (some ⟨W.heap.size, 0, none⟩)] (enters_of Try.func33 (by kernel_rfl) rfl) (St.bothS L).length (St.bothS L) _ _ (by omega) (Below.refl _ _) (vals_fresh W a cap (St.bothS L) h (by omega) q3))
    have HS := Lib.hid hS
    have HW := Lib.hid hW
    obtain ⟨a0, c0, z1, z2, -⟩ := hc 0 h0
    rw [Nat.add_zero] at z1
    have hone : St.bothS (L.take 1) = L.getD 0 [] := by
      cases L with
      | nil => simp at h0
      | cons l L => simp [St.both_one]
    rw [← hone] at z1 z2
    have HZ2 := Lib.hid z2
    obtain ⟨m, hm⟩ : ∃ m, L.length = m := ⟨_, rfl⟩
    rw [hm] at h0 hL ⊢
    have HM := Lib.hid hm
    have hcap : m ≤ cap := by have := hW.1; omega
    have hcapI : (m : Int) ≤ (cap : Int) := by omega
    have hmI : (m : Int) ≤ 1000 := by omega
    have hm0 : ¬ m = 0 := by omega
    have hm1 : (1 : Int) ≤ (m : Int) := by omega
    have hm00 : (0 : Int) < (m : Int) := by omega
    have hcapB : (cap : Int) ≤ 9223372036854775807 := by have := hW.2.1; omega
    have HC : Hid (∀ k, k < m → ∃ a' c', w.cell? ⟨b, off + k, none⟩ = some (.slice a' (L.getD k []).length c') ∧ Wds w a' c' (L.getD k []) ∧ (a' = none → c' = 0)) := Lib.hid fun k hk => hc k (by omega)
    clear hW hS hc q1 q2 q3 z2 hm hone
    rcases Nat.lt_or_ge m 2 with h2 | h2
    · obtain rfl : m = 1 := by omega
      have HE : Hid (L.take 1 = L) := Lib.hid (List.take_of_length_le (by rw [HM.out]; exact Nat.le_refl _))
      rw [HE.out] at z1 HZ2
      clear h2
      rcases Classical.em (cap = 1) with hc1 | hc1
      all_goals
        go_enter Try.func14, Try.ntmps14
        go_wp2
        go_loop [3, 15] (fun s i => s = .slice a0 (St.bothS L).length c0 ∧ i = .int .i64 0) (fun _ _ => 0)
        case atStart => exact ⟨rfl, rfl⟩
        case round =>
          obtain ⟨rfl, rfl⟩ := hrel
          go_wp2_with fail
          refine (callsIn_wide.1 (values_any _ _ _ _)).mono ?_
          rintro e w2 ⟨rfl, rfl⟩
          go_wp2_with fail
          refine (HSet.out w a0 c0 HZ2.out).mono ?_
          rintro e w3 ⟨u, rfl, hr⟩
          have HR := Lib.hid hr
          clear hr
          go_wp2
          go_ret
          have hB4 := (Below.refl w.heap.size w).alloc (Nat.le_refl _) (.cells #[.slice a0 (St.bothS L).length c0] 25)
          exact ⟨_, rfl, owns_base HR.out.1 hB4.size, hB4.trans (HR.out.2.mono hB4.size)⟩
    · have hc1 : ¬ cap = 1 := by omega
      have hmI2 : (1 : Int) < (m : Int) := by omega
      have hmB : ((m : Int) == 0) = false := beq_eq_false_iff_ne.2 (by omega)
      go_enter Try.func14, Try.ntmps14
      go_wp2
      go_loopw [3, 15] (fun s i wr => ∃ (k : Nat) (a1 : Option Addr) (c1 : Nat), s = .slice a1 (St.bothS (L.take (k + 1))).length c1 ∧ i = .int .i64 k ∧ k + 1 ≤ m ∧ Hid (Wds wr a1 c1 (St.bothS (L.take (k + 1)))) ∧ Hid (Below w.heap.size w wr)) (fun _ i _ => m - (intOf i).toNat)
      case atStart => exact ⟨0, a0, c0, rfl, rfl, by omega, HZ2, Lib.hid (Below.refl _ _)⟩
      case round =>
        obtain ⟨k, a1, c1, rfl, rfl, hk, HW1, HB1⟩ := hrel
        by_cases hlt : k + 1 < m
        · obtain ⟨a2, c2, y1, y2, -⟩ := HC.out (k + 1) hlt
          have y3 := (HB1.out.cell (p := ⟨b, off + (k + 1), none⟩) hb).trans y1
          rw [show off + (k + 1) = off + 1 + k by omega] at y3
          have HY2 := Lib.hid (y2.later HB1.out)
          have s1 := both_in (HS.out.take (k + 1))
          have s2 : (L.getD (k + 1) []).length ≤ 400000 ∧ ∀ s ∈ L.getD (k + 1) [], OkW s := by
            have hk1 : k + 1 < L.length := by rw [HM.out]; exact hlt
            rw [getD_eq hk1]
            refine ⟨?_, HS.out.2.1 _ (List.getElem_mem hk1)⟩
            have h1 := (HS.out.drop (k + 1)).2.2
            rw [List.drop_eq_getElem_cons hk1, List.flatten_cons, List.length_append] at h1
            omega
          have HZ : Hid (St.selS St.andF (St.bothS (L.take (k + 1))) (L.getD (k + 1) []) = St.bothS (L.take (k + 1 + 1))) := Lib.hid (both_take HS.out (by rw [HM.out]; exact hlt))
          have HZO := Lib.hid (both_in (HS.out.take (k + 1 + 1))).2.2
          have HS1 := Lib.hid s1
          have HS2 := Lib.hid s2
          clear y1 y2 s1 s2
          generalize St.bothS (L.take (k + 1)) = ws1 at *
          generalize L.getD (k + 1) [] = ws2 at *
          obtain ⟨ws3, hws3⟩ : ∃ ws3, St.bothS (L.take (k + 1 + 1)) = ws3 := ⟨_, rfl⟩
          rw [hws3] at HZ HZO
          have HW3 := Lib.hid hws3
          clear hws3
          have k0 : (k : Int) < (m : Int) - 1 := by omega
          have k00 : (0 : Int) ≤ (k : Int) := by omega
          have k1 : k < m - 1 := by omega
          have HCo := Lib.hid (collect_and wr a1 a2 c1 c2 ws1 ws2 HW1.out HY2.out HS1.out.1 HS2.out.1 HS1.out.2.2 HS2.out.2 ws3 HZ.out HZO.out)
          go_wp2_with fail
          refine (callsIn_wide.1 (chosen_any _ _ _ _ _ _ _ _)).mono ?_
          rintro e w2 ⟨rfl, rfl⟩
          go_wp2_with fail
          refine HCo.out.mono ?_
          rintro e w3 ⟨a3, c3, rfl, hwd, hb3⟩
          have HWd := Lib.hid hwd
          have HB3 := Lib.hid (HB1.out.trans (hb3.mono HB1.out.size))
          clear hwd hb3 y3
          go_wp2
          go_roundw
          case rel => exact ⟨k + 1, a3, c3, by rw [HW3.out], by go_num, by omega, by rw [HW3.out]; exact HWd, HB3⟩
          case measure => simp [intOf]; omega
        · obtain rfl : m = k + 1 := by omega
          have HE : Hid (St.bothS (L.take (k + 1)) = St.bothS L) := Lib.hid (by rw [List.take_of_length_le (by rw [HM.out]; exact Nat.le_refl _)])
          rw [HE.out] at HW1
          rw [HE.out]
          have k1 : ¬ (k : Int) < (k : Int) + 1 - 1 := by omega
          go_wp2_with fail
          refine (callsIn_wide.1 (values_any _ _ _ _)).mono ?_
          rintro e w2 ⟨rfl, rfl⟩
          go_wp2_with fail
          refine (HSet.out wr a1 c1 HW1.out).mono ?_
          rintro e w3 ⟨u, rfl, hr⟩
          have HR := Lib.hid hr
          clear hr
          go_wp2
          go_ret
          have hB4 := HB1.out.alloc HB1.out.size (.cells #[.slice a1 (St.bothS L).length c1] 25)
          exact ⟨_, rfl, owns_base HR.out.1 hB4.size, hB4.trans (HR.out.2.mono hB4.size)⟩
end Go.Proofs.Ytekdmnecjgpokaa
