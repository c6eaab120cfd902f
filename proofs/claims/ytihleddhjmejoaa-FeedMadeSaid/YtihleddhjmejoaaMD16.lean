/- The contracts of the reference's SHas and SAdd. -/
import Derived.Test.YtihleddhjmejoaaMD04
import Derived.Test.YtihleddhjmejoaaMD15
import Derived.Sort.Walk0
import Derived.LoopTactic
import Derived.Laws.AppendOwnNone
import Derived.Maps.OwnIn
import Derived.Deep.Cut
namespace Go.Proofs.Ytihleddhjmejoaa
open Go.RowKit Go.Shelf
set_option linter.unusedVariables false
set_option linter.unusedSimpArgs false

set_option maxRecDepth 100000 in
set_option maxHeartbeats 4000000 in
theorem shas_any (a : Option Addr) (cap : Nat) (ws : List (List UInt8)) (s : List UInt8) (w : World) (hW : Wds w a cap ws) : Calls Try.prog 74 #[.slice a ws.length cap, .string ⟨s.toArray⟩] w fun e W => e = .returned (.bool (Mk.hasB ws s)) ∧ w = W := by
  have hn : ws.length ≤ 9223372036854775807 := Nat.le_trans hW.1 hW.2.1
  have hnI : (ws.length : Int) ≤ 9223372036854775807 := by omega
  have HW := Lib.hid hW
  clear hW
  go_enter Try.func74, Try.ntmps74
  go_wp2
  go_loop [4, 5] (fun r i => ∃ q : Nat, q ≤ ws.length ∧ r = .bool false ∧ i = .int .i64 q ∧ Hid (∀ j, j < q → ws.getD j [] ≠ s)) (fun _ i => ws.length - (intOf i).toNat)
  case atStart => exact ⟨0, Nat.zero_le _, rfl, rfl, Lib.hid fun j h => by omega⟩
  case round =>
    obtain ⟨q, hq, rfl, rfl, HJ⟩ := hrel
    by_cases hlt : q < ws.length
    · obtain ⟨b, o, rfl, hb, hc⟩ := HW.out.get (by omega)
      have y0 := hc q hlt
      have k0 : (0 : Int) ≤ (q : Int) := by omega
      have k1 : (q : Int) < (ws.length : Int) := by omega
      have kT : ((q : Int)).toNat = q := by omega
      obtain ⟨x, hx⟩ : ∃ x, ws.getD q [] = x := ⟨_, rfl⟩
      rw [hx] at y0
      have HX := Lib.hid hx
      clear hc hx
      by_cases he : x = s
      · have HB := Lib.hid (show Mk.hasB ws s = true from by
          unfold Mk.hasB
          rw [List.any_eq_true]
          exact ⟨ws.getD q [], by rw [getD_eq hlt]; exact List.getElem_mem hlt, by rw [HX.out]; simp [he]⟩)
        have hne : (x != s) = false := by simp [he]
        have hne2 : (x == s) = true := by simp [he]
        clear he
        go_wp2
        go_ret
        exact ⟨by rw [HB.out]; rfl, rfl⟩
      · have HJ2 := Lib.hid (show ∀ j, j < q + 1 → ws.getD j [] ≠ s from fun j hj => by
          rcases Nat.lt_or_ge j q with h' | h'
          · exact HJ.out j h'
          · obtain rfl : j = q := by omega
            rw [HX.out]; exact he)
        have hne : (x != s) = true := by simp [he]
        have hne2 : (x == s) = false := by simp [he]
        go_wp2
        go_round
        case rel => exact ⟨q + 1, by omega, rfl, by go_num, HJ2⟩
        case measure => simp [intOf]; omega
    · obtain rfl : q = ws.length := by omega
      have HB := Lib.hid (show Mk.hasB ws s = false from by
        unfold Mk.hasB
        rw [List.any_eq_false]
        intro t ht
        obtain ⟨j, hj, rfl⟩ := List.getElem_of_mem ht
        have := HJ.out j hj
        rw [getD_eq hj] at this
        simpa using this)
      go_wp2
      go_ret
      exact ⟨by rw [HB.out]; rfl, rfl⟩

set_option maxRecDepth 100000 in
set_option maxHeartbeats 4000000 in
theorem sadd_nil (s : List UInt8) (w : World) (hs : s.length ≤ 1000000) : Calls Try.prog 62 #[.slice none 0 0, .string ⟨s.toArray⟩] w fun e W => ∃ u, e = .returned u ∧ RowW w u [s] W := by
  obtain ⟨i0, hi, hz0, hz1, hz2⟩ := info_parts info9
  have HS := Lib.hid (shas_any none 0 [] s w (wds_nil w))
  have hr0 := RowW.empty (Below.refl w.heap.size w)
  have HR0 := Lib.hid hr0
  clear hr0
  go_enter Try.func62, Try.ntmps62
  go_wp2_with fail
  refine HS.out.mono ?_
  rintro e w1 ⟨rfl, rfl⟩
  rw [show Mk.hasB [] s = false from rfl]
  go_wp2_with fail
  go_loop [5] (fun i => i = .int .i64 0) (fun _ => 0)
  case atStart => rfl
  case round =>
    obtain rfl := hrel
    go_wp2_with (at_builtin; refine wpList_append_own_none rfl (.tmp 27) (.tmp 30) 57 rfl w.heap.size 9 i0 1 Try.underlying57 hi _ _ _ rfl HR0.out.1 rfl ?_; generalize hw5 : w.alloc (.cells #[] 9) = w5; revert hw5)
    intro hw5
    have hr5 : RowW w (.slice (some ⟨w.heap.size, 0, none⟩) 0 0) [] w5 := by rw [← hw5]; exact HR0.out
    have hsz5 := hr5.2.size
    clear hw5
    go_wp2_with (at_builtin; refine wpList_append_own _ rfl (.tmp 32) (.tmp 34) 57 rfl w.heap.size 9 i0 (.string ⟨#[]⟩) 1 16 Try.underlying57 hi hz0 hz1 hz2 rfl (by decide) _ _ _ rfl (hr5.1.alloc _) ⟨w5.heap.size, 0, none⟩ 1 1 [.string ⟨s.toArray⟩] rfl rfl (one_news _ _ rfl _ _) (by simp [Value.oneCell']) (by unfold maxLen; simp) (by simp) (by simp; omega) ?_)
    intro v6 w6 hown6 hgrow6 _
    have hr6 : RowW w v6 ([] ++ [s]) w6 := hr5.append hown6 hgrow6
    clear hown6 hgrow6
    have HR6 := Lib.hid hr6
    clear hr5 hr6
    go_wp2_with (at_builtin; refine wpList_append_own_none rfl (.tmp 36) (.tmp 39) 57 rfl w.heap.size 9 i0 1 Try.underlying57 hi _ _ _ rfl HR6.out.1 rfl ?_)
    go_ret
    exact ⟨_, rfl, HR6.out⟩

set_option maxRecDepth 100000 in
set_option maxHeartbeats 8000000 in
theorem sadd_any (g cap : Nat) (ws : List (List UInt8)) (s : List UInt8) (w : World) (hW : Wds w (some ⟨g, 0, none⟩) cap ws) (h0 : 0 < ws.length) (hl : ws.length ≤ 1000) (hs : s.length ≤ 1000000) :
    Calls Try.prog 62 #[.slice (some ⟨g, 0, none⟩) ws.length cap, .string ⟨s.toArray⟩] w fun e W => ∃ u, e = .returned u ∧ RowW w u (Mk.sadd ws s) W := by
  obtain ⟨i0, hi, hz0, hz1, hz2⟩ := info_parts info9
  have HS := Lib.hid (shas_any (some ⟨g, 0, none⟩) cap ws s w hW)
  have hnI : (ws.length : Int) ≤ 1000 := by omega
  have hcap : ws.length ≤ cap := hW.1
  have hcapI : (cap : Int) ≤ 9223372036854775807 := by have := hW.2.1; omega
  have hnc : (ws.length : Int) ≤ (cap : Int) := by omega
  have HW := Lib.hid hW
  have HR0 := Lib.hid (RowW.empty (Below.refl w.heap.size w))
  clear hW
  go_enter Try.func62, Try.ntmps62
  go_wp2_with fail
  refine HS.out.mono ?_
  rintro e w1 ⟨rfl, rfl⟩
  cases hb : Mk.hasB ws s with
  | true =>
    have HE := Lib.hid (show Mk.sadd ws s = ws by unfold Mk.sadd; rw [if_pos hb])
    have HN := Lib.hid (news_of (HW.out.later ((Below.refl _ w).alloc (Nat.le_refl _) (.cells #[] 9))))
    clear hb
    go_wp2_with (at_builtin; refine wpList_append_own _ rfl (.tmp 10) (.tmp 11) 57 rfl w.heap.size 9 i0 (.string ⟨#[]⟩) 1 16 Try.underlying57 hi hz0 hz1 hz2 rfl (by decide) _ _ _ rfl HR0.out.1 ⟨g, 0, none⟩ ws.length cap (wcells ws) rfl (by simp [wcells]) HN.out news_one (by unfold maxLen; simp; omega) (by simp; omega) (by simp) ?_)
    intro v6 w6 hown6 hgrow6 _
    have HR6 := Lib.hid (HR0.out.more (xs := ws) hown6 (by simp) (by simp [wcells]) hgrow6)
    clear hown6 hgrow6
    go_wp2_with fail
    go_ret
    exact ⟨_, rfl, by rw [HE.out]; exact HR6.out⟩
  | false =>
    have HE := Lib.hid (show Mk.sadd ws s = ws.take (Mk.lowS ws s) ++ [s] ++ ws.drop (Mk.lowS ws s) by unfold Mk.sadd; rw [if_neg (by rw [hb]; decide)])
    clear hb
    go_wp2_with fail
    go_loop [5] (fun i => ∃ q : Nat, q ≤ ws.length ∧ i = .int .i64 q ∧ Hid (∀ j, j < q → ws.getD j [] < s)) (fun i => ws.length - (intOf i).toNat)
    case atStart => exact ⟨0, Nat.zero_le _, rfl, Lib.hid fun j h => by omega⟩
    case round =>
      obtain ⟨q, hq, rfl, HJ⟩ := hrel
      have k0 : (0 : Int) ≤ (q : Int) := by omega
      have kT : ((q : Int)).toNat = q := by omega
      have HX : Hid (q < ws.length → w.cell? ⟨g, q, none⟩ = some (.string ⟨(ws.getD q []).toArray⟩)) := Lib.hid fun hlt => by
        obtain ⟨b', o', he, _, hc⟩ := HW.out.get h0
        cases he
        have := hc q hlt
        rwa [Nat.zero_add] at this
      by_cases hgo : q < ws.length ∧ ws.getD q [] < s
      · obtain ⟨hlt, hls⟩ := hgo
        have y0 := HX.out hlt
        have HJ2 := Lib.hid (show ∀ j, j < q + 1 → ws.getD j [] < s from fun j hj => by
          rcases Nat.lt_or_ge j q with h' | h'
          · exact HJ.out j h'
          · obtain rfl : j = q := by omega
            exact hls)
        have k1 : (q : Int) < (ws.length : Int) := by omega
        generalize ws.getD q [] = x at *
        have hbl : Op.bytesLess x s = true := by rw [bytesLess_eq, decide_eq_true hls]
        clear hls
        go_wp2_with fail
        go_round
        case rel => exact ⟨q + 1, by omega, by go_num, HJ2⟩
        case measure => simp [intOf]; omega
      · have HLow := Lib.hid (Mk.low_eq hq HJ.out (by
          rcases Nat.lt_or_ge q ws.length with h | h
          · exact .inr fun h' => hgo ⟨h, h'⟩
          · exact .inl (by omega)))
        obtain ⟨ws1, hws1⟩ : ∃ ws1, ws.take q = ws1 := ⟨_, rfl⟩
        obtain ⟨ws3, hws3⟩ : ∃ ws3, ws.drop q = ws3 := ⟨_, rfl⟩
        have hl1 : ws1.length = q := by rw [← hws1, List.length_take]; omega
        have hl3 : ws3.length = ws.length - q := by rw [← hws3, List.length_drop]
        have HE2 := Lib.hid (show Mk.sadd ws s = ws1 ++ [s] ++ ws3 from by rw [HE.out, HLow.out, hws1, hws3])
        have HT1 : Hid (∀ W, Below w.heap.size w W → Wds W (some ⟨g, 0, none⟩) cap ws1) := Lib.hid fun W h => by rw [← hws1]; exact (HW.out.take q).later h
        have HT3 : Hid (q < cap → ∀ W, Below w.heap.size w W → Wds W (some ⟨g, q, none⟩) (cap - q) ws3) := Lib.hid fun hqc W h => by
          have := (HW.out.drop q hqc hq).later h
          rw [Nat.zero_add, hws3] at this
          exact this
        have hqcI : (q : Int) ≤ (cap : Int) := by omega
        have hqnI : (q : Int) ≤ (ws.length : Int) := by omega
        have hqc : q ≤ cap := by omega
        have HL1 := Lib.hid hl1
        have HL3 := Lib.hid hl3
        have HN1 := Lib.hid (news_of (HT1.out (w.alloc (.cells #[] 9)) ((Below.refl _ _).alloc (Nat.le_refl _) _)))
        clear hws1 hws3 hl1 hl3
        have hbr : (q < ws.length ∧ Op.bytesLess (ws.getD q []) s = false) ∨ q = ws.length := by
          rcases Nat.lt_or_ge q ws.length with h | h
          · refine .inl ⟨h, ?_⟩
            rw [bytesLess_eq, decide_eq_false_iff_not]
            exact fun h' => hgo ⟨h, h'⟩
          · exact .inr (by omega)
        clear hgo
        rcases hbr with ⟨hlt, hbl⟩ | hlt
        · have y0 := HX.out hlt
          have k1 : (q : Int) < (ws.length : Int) := by omega
          generalize ws.getD q [] = x at *
          go_wp2_with (at_builtin; refine wpList_append_own _ rfl (.tmp 27) (.tmp 30) 57 rfl w.heap.size 9 i0 (.string ⟨#[]⟩) 1 16 Try.underlying57 hi hz0 hz1 hz2 rfl (by decide) _ _ _ rfl HR0.out.1 ⟨g, 0, none⟩ q cap (wcells ws1) rfl (by rw [wcells_len, HL1.out, Nat.mul_one]) HN1.out news_one (by unfold maxLen; simp; omega) (by simp; omega) (by simp) ?_)
          intro v5 w5 hown5 hgrow5 _
          have hr5 : RowW w v5 ([] ++ ws1) w5 := HR0.out.more (xs := ws1) hown5 (by rw [HL1.out]; simp) (by simp [wcells]) hgrow5
          have HR5 : Hid (RowW w v5 ws1 w5) := Lib.hid hr5
          have hsz5 := hr5.2.size
          clear hown5 hgrow5 hr5
          go_wp2_with (at_builtin; refine wpList_append_own _ rfl (.tmp 32) (.tmp 34) 57 rfl w.heap.size 9 i0 (.string ⟨#[]⟩) 1 16 Try.underlying57 hi hz0 hz1 hz2 rfl (by decide) _ _ _ rfl (HR5.out.1.alloc _) ⟨w5.heap.size, 0, none⟩ 1 1 [.string ⟨s.toArray⟩] rfl rfl (one_news _ _ rfl _ _) (by simp [Value.oneCell']) (by rw [HL1.out]; unfold maxLen; omega) (by rw [HL1.out]; omega) (by simp; omega) ?_)
          intro v6 w6 hown6 hgrow6 _
          have HR6 := Lib.hid (HR5.out.append hown6 hgrow6)
          have HL6 := Lib.hid (show (ws1 ++ [s]).length = q + 1 by rw [List.length_append, HL1.out]; rfl)
          have hsz6 := HR6.out.2.size
          clear hown6 hgrow6
          by_cases hqc2 : q < cap
          · have hqd : decide (cap = q) = false := by rw [decide_eq_false_iff_not]; omega
            have hqn : ¬ cap = q := by omega
            have HN3 := Lib.hid (news_of (HT3.out hqc2 w6 HR6.out.2))
            go_wp2_with (at_builtin; refine wpList_append_own _ rfl (.tmp 36) (.tmp 39) 57 rfl w.heap.size 9 i0 (.string ⟨#[]⟩) 1 16 Try.underlying57 hi hz0 hz1 hz2 rfl (by decide) _ _ _ rfl HR6.out.1 ⟨g, q, none⟩ (ws.length - q) (cap - q) (wcells ws3) rfl (by rw [wcells_len, HL3.out, Nat.mul_one]) HN3.out news_one (by rw [HL6.out]; unfold maxLen; omega) (by rw [HL6.out]; omega) (by omega) ?_)
            intro v7 w7 hown7 hgrow7 _
            have HR7 := Lib.hid (HR6.out.more (xs := ws3) hown7 (by rw [HL3.out, List.length_append]; rfl) rfl hgrow7)
            clear hown7 hgrow7
            go_wp2_with fail
            go_ret
            exact ⟨_, rfl, by rw [HE2.out]; exact HR7.out⟩
          · have hqe2 : cap = q := by omega
            have HNil := Lib.hid (show ws3 = [] from List.eq_nil_of_length_eq_zero (by rw [HL3.out]; omega))
            subst hqe2
            go_wp2_with (at_builtin; refine wpList_append_own _ rfl (.tmp 36) (.tmp 39) 57 rfl w.heap.size 9 i0 (.string ⟨#[]⟩) 1 16 Try.underlying57 hi hz0 hz1 hz2 rfl (by decide) _ _ _ rfl HR6.out.1 ⟨g, 0, none⟩ 0 0 [] rfl rfl (by intro j u hu; simp at hu) (by intro u hu; simp at hu) (by rw [HL6.out]; unfold maxLen; omega) (by rw [HL6.out]; omega) (by omega) ?_)
            intro v7 w7 hown7 hgrow7 _
            have HR7 := Lib.hid (HR6.out.more (xs := []) hown7 (by simp) (by simp [wcells]) hgrow7)
            clear hown7 hgrow7
            go_wp2_with fail
            go_ret
            exact ⟨_, rfl, by rw [HE2.out, HNil.out]; exact HR7.out⟩
        · have k1 : (ws.length : Int) ≤ (q : Int) := by omega
          have k2 : decide ((q : Int) < (ws.length : Int)) = false := by rw [decide_eq_false_iff_not]; omega
          have k3 : decide (q < ws.length) = false := by rw [decide_eq_false_iff_not]; omega
          have HQN := Lib.hid hlt
          clear hlt
          go_wp2_with (at_builtin; refine wpList_append_own _ rfl (.tmp 27) (.tmp 30) 57 rfl w.heap.size 9 i0 (.string ⟨#[]⟩) 1 16 Try.underlying57 hi hz0 hz1 hz2 rfl (by decide) _ _ _ rfl HR0.out.1 ⟨g, 0, none⟩ q cap (wcells ws1) rfl (by rw [wcells_len, HL1.out, Nat.mul_one]) HN1.out news_one (by unfold maxLen; simp; omega) (by simp; omega) (by simp) ?_)
          intro v5 w5 hown5 hgrow5 _
          have hr5 : RowW w v5 ([] ++ ws1) w5 := HR0.out.more (xs := ws1) hown5 (by rw [HL1.out]; simp) (by simp [wcells]) hgrow5
          have HR5 : Hid (RowW w v5 ws1 w5) := Lib.hid hr5
          have hsz5 := hr5.2.size
          clear hown5 hgrow5 hr5
          go_wp2_with (at_builtin; refine wpList_append_own _ rfl (.tmp 32) (.tmp 34) 57 rfl w.heap.size 9 i0 (.string ⟨#[]⟩) 1 16 Try.underlying57 hi hz0 hz1 hz2 rfl (by decide) _ _ _ rfl (HR5.out.1.alloc _) ⟨w5.heap.size, 0, none⟩ 1 1 [.string ⟨s.toArray⟩] rfl rfl (one_news _ _ rfl _ _) (by simp [Value.oneCell']) (by rw [HL1.out]; unfold maxLen; omega) (by rw [HL1.out]; omega) (by simp; omega) ?_)
          intro v6 w6 hown6 hgrow6 _
          have HR6 := Lib.hid (HR5.out.append hown6 hgrow6)
          have HL6 := Lib.hid (show (ws1 ++ [s]).length = q + 1 by rw [List.length_append, HL1.out]; rfl)
          have hsz6 := HR6.out.2.size
          clear hown6 hgrow6
          by_cases hqc2 : q < cap
          · have hqd : decide (cap = q) = false := by rw [decide_eq_false_iff_not]; omega
            have hqn : ¬ cap = q := by omega
            have HN3 := Lib.hid (news_of (HT3.out hqc2 w6 HR6.out.2))
            go_wp2_with (at_builtin; refine wpList_append_own _ rfl (.tmp 36) (.tmp 39) 57 rfl w.heap.size 9 i0 (.string ⟨#[]⟩) 1 16 Try.underlying57 hi hz0 hz1 hz2 rfl (by decide) _ _ _ rfl HR6.out.1 ⟨g, q, none⟩ (ws.length - q) (cap - q) (wcells ws3) rfl (by rw [wcells_len, HL3.out, Nat.mul_one]) HN3.out news_one (by rw [HL6.out]; unfold maxLen; omega) (by rw [HL6.out]; omega) (by omega) ?_)
            intro v7 w7 hown7 hgrow7 _
            have HR7 := Lib.hid (HR6.out.more (xs := ws3) hown7 (by rw [HL3.out, List.length_append]; rfl) rfl hgrow7)
            clear hown7 hgrow7
            go_wp2_with fail
            go_ret
            exact ⟨_, rfl, by rw [HE2.out]; exact HR7.out⟩
          · have hqe2 : cap = q := by omega
            have HNil := Lib.hid (show ws3 = [] from List.eq_nil_of_length_eq_zero (by rw [HL3.out]; omega))
            subst hqe2
            go_wp2_with (at_builtin; refine wpList_append_own _ rfl (.tmp 36) (.tmp 39) 57 rfl w.heap.size 9 i0 (.string ⟨#[]⟩) 1 16 Try.underlying57 hi hz0 hz1 hz2 rfl (by decide) _ _ _ rfl HR6.out.1 ⟨g, 0, none⟩ 0 0 [] rfl rfl (by intro j u hu; simp at hu) (by intro u hu; simp at hu) (by rw [HL6.out]; unfold maxLen; omega) (by rw [HL6.out]; omega) (by omega) ?_)
            intro v7 w7 hown7 hgrow7 _
            have HR7 := Lib.hid (HR6.out.more (xs := []) hown7 (by simp) (by simp [wcells]) hgrow7)
            clear hown7 hgrow7
            go_wp2_with fail
            go_ret
            exact ⟨_, rfl, by rw [HE2.out, HNil.out]; exact HR7.out⟩
end Go.Proofs.Ytihleddhjmejoaa
