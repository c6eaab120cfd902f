/- The contract of the reference's Rem. -/
import Derived.Test.YtjfjlbgbdjcecaaLsRef2
namespace Go.Proofs.Ytjfjlbgbdjcecaa
open Go.RowKit Go.Shelf
set_option linter.unusedVariables false
set_option linter.unusedSimpArgs false

theorem gone_no {ws : List Ls.Bs} {v : Ls.Bs} {lo hi q : Nat} (h : ¬ ws.getD q [] = v) : Ls.goneB ws v lo hi q = false := by unfold Ls.goneB; rw [show (ws.getD q [] == v) = false by simpa using h]; rfl
theorem gone_is {ws : List Ls.Bs} {v : Ls.Bs} {lo hi q : Nat} (h : ws.getD q [] = v) : Ls.goneB ws v lo hi q = (decide (lo ≤ Ls.seen ws v q) && decide (Ls.seen ws v q < hi)) := by unfold Ls.goneB; rw [show (ws.getD q [] == v) = true by simpa using h]; rfl
theorem seen_yes {ws : List Ls.Bs} {v : Ls.Bs} {q : Nat} (hq : q < ws.length) (h : ws.getD q [] = v) : Ls.seen ws v (q + 1) = Ls.seen ws v q + 1 := by rw [Ls.seen_succ hq, if_pos (by simpa using h)]
theorem seen_no {ws : List Ls.Bs} {v : Ls.Bs} {q : Nat} (hq : q < ws.length) (h : ¬ ws.getD q [] = v) : Ls.seen ws v (q + 1) = Ls.seen ws v q := by rw [Ls.seen_succ hq, if_neg (by simpa using h)]; rfl

set_option maxRecDepth 100000 in
set_option maxHeartbeats 16000000 in
theorem rem_ref (a : Option Addr) (cap : Nat) (ws : List Ls.Bs) (n : Int) (v : Ls.Bs) (w : World) (hF : Wds w a cap ws) (hi : -9223372036854775808 ≤ n) (hi2 : n ≤ 9223372036854775807) (hn : ws.length ≤ 1000000) :
    Calls Try.prog 15 #[.slice a ws.length cap, .int .i64 n, .string ⟨v.toArray⟩] w fun e W => ∃ u, e = .returned (.tuple #[u, .int .i64 (Ls.remN ws v n : Int)]) ∧ RowW w u (Ls.remS ws v n) W := by
  obtain ⟨iF, hiF, hiF0, hiF1, hiF2⟩ := info_parts info9
  have hnI : (ws.length : Int) ≤ 1000000 := by omega
  have HF := Lib.hid hF
  have HRN : Hid (∀ lo hi, lo = Ls.loN ws v n → hi = Ls.hiN ws v n → Ls.wentK ws v lo hi ws.length = Ls.remN ws v n) := Lib.hid fun lo hi h1 h2 => by rw [h1, h2]; exact Ls.wentK_all ws v n
  have HRS : Hid (∀ lo hi, lo = Ls.loN ws v n → hi = Ls.hiN ws v n → Ls.dropK ws v lo hi ws.length = Ls.remS ws v n) := Lib.hid fun lo hi h1 h2 => by rw [h1, h2]; rfl
  clear hF
  go_enter Try.func15, Try.ntmps15
  go_wp2_with fail
  go_loop [8, 9] (fun s i => ∃ q : Nat, q ≤ ws.length ∧ i = .int .i64 q ∧ s = .int .i64 (Ls.seen ws v q)) (fun _ i => ws.length - (intOf i).toNat)
  case atStart => exact ⟨0, Nat.zero_le _, rfl, by rw [Ls.seen_zero]; rfl⟩
  case round =>
    obtain ⟨q, hq, rfl, rfl⟩ := hrel
    have hsl := Ls.seen_le ws v q
    by_cases hlt : q < ws.length
    · obtain ⟨b, off, rfl, hb, hc⟩ := HF.out.get (by omega)
      have y0 := hc q hlt
      have k0 : (0 : Int) ≤ (q : Int) := by omega
      have k1 : (q : Int) < (ws.length : Int) := by omega
      by_cases he : ws.getD q [] = v
      · have HS := Lib.hid (seen_yes hlt he)
        rw [he] at y0
        have hne : (v != v) = false := by simp
        have hne2 : (v == v) = true := by simp
        clear hc he
        generalize Ls.seen ws v q = s0 at *
        go_wp2
        go_round
        case rel => exact ⟨q + 1, by omega, by go_num, by rw [HS.out]; go_num⟩
        case measure => simp [intOf]; omega
      · have HS := Lib.hid (seen_no hlt he)
        obtain ⟨x, hx⟩ : ∃ x, ws.getD q [] = x := ⟨_, rfl⟩
        rw [hx] at y0 he
        have hne : (x != v) = true := by simpa using he
        have hne2 : (x == v) = false := by simpa using he
        clear hc he hx
        generalize Ls.seen ws v q = s0 at *
        go_wp2
        go_round
        case rel => exact ⟨q + 1, by omega, by go_num, by rw [HS.out]⟩
        case measure => simp [intOf]; omega
    · obtain rfl : q = ws.length := by omega
      rw [Ls.seen_all] at *
      have hal := Ls.allN_le ws v
      by_cases hp : 0 < n
      · have hn1 : ¬ n < 0 := by omega
        obtain ⟨lo, hlo0⟩ : ∃ lo : Nat, lo = 0 := ⟨_, rfl⟩
        obtain ⟨hi', hhi0⟩ : ∃ hi' : Nat, hi' = min n.natAbs (Ls.allN ws v) := ⟨_, rfl⟩
        have hm : min n (Ls.allN ws v : Int) = (hi' : Int) := by omega
        have HLO := Lib.hid (show lo = Ls.loN ws v n by unfold Ls.loN; rw [if_neg hn1, hlo0])
        have HHI := Lib.hid (show hi' = Ls.hiN ws v n by unfold Ls.hiN; rw [if_pos hp, hhi0])
        clear hhi0
        subst hlo0
        go_wp2_with fail
        go_loopw [12, 13, 14, 15] (fun u s g i wr => ∃ q : Nat, q ≤ ws.length ∧ i = .int .i64 q ∧ s = .int .i64 (Ls.seen ws v q) ∧ g = .int .i64 (Ls.wentK ws v 0 hi' q) ∧ Hid (RowW w u (Ls.dropK ws v 0 hi' q) wr)) (fun _ _ _ i _ => ws.length - (intOf i).toNat)
        case atStart => exact ⟨0, Nat.zero_le _, rfl, by rw [Ls.seen_zero]; rfl, by rw [Ls.wentK_zero]; rfl, Lib.hid (RowW.none (Below.refl _ _))⟩
        case round =>
          obtain ⟨q, hq, rfl, rfl, rfl, HQ⟩ := hrel
          have hsl2 := Ls.seen_le ws v q
          have hdl := Ls.dropK_len (ws := ws) (v := v) (lo := 0) (hi := hi') hq
          have hzr := HQ.out.2.size
          by_cases hlt : q < ws.length
          · obtain ⟨b, off, rfl, hb, hc⟩ := HF.out.get (by omega)
            have y0 := (HQ.out.2.cell (p := ⟨b, off + q, Option.none⟩) hb).trans (hc q hlt)
            have k0 : (0 : Int) ≤ (q : Int) := by omega
            have k1 : (q : Int) < (ws.length : Int) := by omega
            have hlo : (Ls.dropK ws v 0 hi' q).length ≤ 1000000 := by omega
            have hwl : Ls.wentK ws v 0 hi' q ≤ 1000000 := by omega
            by_cases he : ws.getD q [] = v
            · have HS := Lib.hid (seen_yes hlt he)
              have hgo := gone_is (lo := 0) (hi := hi') he
              rw [he] at y0
              have hne : (v != v) = false := by simp
              have hne2 : (v == v) = true := by simp
              have HV := Lib.hid he
              clear hc he hdl
              by_cases g1 : 0 ≤ Ls.seen ws v q
              · by_cases g2 : Ls.seen ws v q < hi'
                · rw [decide_eq_true g1, decide_eq_true g2] at hgo
                  have HD := Lib.hid (Ls.dropK_gone hgo)
                  have HW := Lib.hid (Ls.wentK_gone hlt hgo)
                  clear hgo
                  generalize Ls.seen ws v q = s0 at *
                  generalize Ls.wentK ws v 0 hi' q = g0 at *
                  go_wp2_with fail
                  go_roundw
                  case rel => exact ⟨q + 1, by omega, by go_num, by rw [HS.out]; go_num, by rw [HW.out]; go_num, by rw [HD.out]; exact HQ⟩
                  case measure => simp [intOf]; omega
                · rw [decide_eq_true g1, decide_eq_false g2] at hgo
                  have HD := Lib.hid (Ls.dropK_stays hgo)
                  have HW := Lib.hid (Ls.wentK_stays hlt hgo)
                  clear hgo
                  generalize Ls.seen ws v q = s0 at *
                  generalize Ls.wentK ws v 0 hi' q = g0 at *
                  rw [HV.out] at HD
                  generalize Ls.dropK ws v 0 hi' q = out at HQ hlo HD
                  go_wp2_with (at_builtin; refine wpList_append_own _ rfl (.tmp 76) (.tmp 81) 22 rfl w.heap.size 9 iF _ 1 16 Try.underlying22 hiF hiF0 hiF1 hiF2 rfl (by decide) _ _ _ rfl (HQ.out.1.alloc _) ⟨wr.heap.size, 0, Option.none⟩ 1 1 [.string ⟨v.toArray⟩] rfl rfl (one_news _ _ rfl _ _) (by simp [Value.oneCell']) (by unfold maxLen; omega) (by omega) (by simp; omega) ?_; intro v1 w1 hown hgrow _; have HR2 := Lib.hid (HQ.out.append hown hgrow); have hzw1 := HR2.out.2.size; clear hown hgrow)
                  go_roundw
                  case rel => exact ⟨q + 1, by omega, by go_num, by rw [HS.out]; go_num, by rw [HW.out], by rw [HD.out]; exact HR2⟩
                  case measure => simp [intOf]; omega
              · exact absurd (Nat.zero_le _) g1
            · have HS := Lib.hid (seen_no hlt he)
              have hgo := gone_no (lo := 0) (hi := hi') he
              have HD := Lib.hid (Ls.dropK_stays hgo)
              have HW := Lib.hid (Ls.wentK_stays hlt hgo)
              obtain ⟨x, hx⟩ : ∃ x, ws.getD q [] = x := ⟨_, rfl⟩
              rw [hx] at y0 he HD
              have hne : (x != v) = true := by simpa using he
              have hne2 : (x == v) = false := by simpa using he
              clear hc he hx hgo hdl
              generalize Ls.seen ws v q = s0 at *
              generalize Ls.wentK ws v 0 hi' q = g0 at *
              generalize Ls.dropK ws v 0 hi' q = out at HQ hlo HD
              go_wp2_with (at_builtin; refine wpList_append_own _ rfl (.tmp 59) (.tmp 64) 22 rfl w.heap.size 9 iF _ 1 16 Try.underlying22 hiF hiF0 hiF1 hiF2 rfl (by decide) _ _ _ rfl (HQ.out.1.alloc _) ⟨wr.heap.size, 0, Option.none⟩ 1 1 [.string ⟨x.toArray⟩] rfl rfl (one_news _ _ rfl _ _) (by simp [Value.oneCell']) (by unfold maxLen; omega) (by omega) (by simp; omega) ?_; intro v1 w1 hown hgrow _; have HR2 := Lib.hid (HQ.out.append hown hgrow); have hzw1 := HR2.out.2.size; clear hown hgrow)
              go_roundw
              case rel => exact ⟨q + 1, by omega, by go_num, by rw [HS.out], by rw [HW.out], by rw [HD.out]; exact HR2⟩
              case measure => simp [intOf]; omega
          · obtain rfl : q = ws.length := by omega
            rw [HRS.out 0 hi' HLO.out HHI.out] at HQ
            have HN := Lib.hid (HRN.out 0 hi' HLO.out HHI.out)
            generalize Ls.wentK ws v 0 hi' ws.length = g0 at *
            generalize Ls.seen ws v ws.length = s0 at *
            go_wp2_with fail
            go_ret2
            exact ⟨_, by rw [← HN.out]; rfl, HQ.out⟩
      · by_cases hn1 : n < 0
        · obtain ⟨hi', hhi0⟩ : ∃ hi' : Nat, hi' = Ls.allN ws v := ⟨_, rfl⟩
          have HHI := Lib.hid (show hi' = Ls.hiN ws v n by unfold Ls.hiN; rw [if_neg hp, hhi0])
          have HLO0 := Lib.hid (show Ls.loN ws v n = Ls.allN ws v - n.natAbs by unfold Ls.loN; rw [if_pos hn1])
          rw [← hhi0] at hal HLO0 ⊢
          clear hhi0
          have hwn : IntKind.i64.wrap (-(hi' : Int)) = -(hi' : Int) := IntWalk.i64_in _ (by omega)
          by_cases hm : -(hi' : Int) < n
          · obtain ⟨lo, hlo0⟩ : ∃ lo : Nat, lo = hi' - n.natAbs := ⟨_, rfl⟩
            have hwm : IntKind.i64.wrap ((hi' : Int) + n) = (lo : Int) := by rw [IntWalk.i64_in _ (by omega)]; omega
            have HLO := Lib.hid (show lo = Ls.loN ws v n by rw [HLO0.out, hlo0])
            clear hlo0
            go_wp2_with fail
            go_loopw [12, 13, 14, 15] (fun u s g i wr => ∃ q : Nat, q ≤ ws.length ∧ i = .int .i64 q ∧ s = .int .i64 (Ls.seen ws v q) ∧ g = .int .i64 (Ls.wentK ws v lo hi' q) ∧ Hid (RowW w u (Ls.dropK ws v lo hi' q) wr)) (fun _ _ _ i _ => ws.length - (intOf i).toNat)
            case atStart => exact ⟨0, Nat.zero_le _, rfl, by rw [Ls.seen_zero]; rfl, by rw [Ls.wentK_zero]; rfl, Lib.hid (RowW.none (Below.refl _ _))⟩
            case round =>
              obtain ⟨q, hq, rfl, rfl, rfl, HQ⟩ := hrel
              have hsl2 := Ls.seen_le ws v q
              have hdl := Ls.dropK_len (ws := ws) (v := v) (lo := lo) (hi := hi') hq
              have hzr := HQ.out.2.size
              by_cases hlt : q < ws.length
              · obtain ⟨b, off, rfl, hb, hc⟩ := HF.out.get (by omega)
                have y0 := (HQ.out.2.cell (p := ⟨b, off + q, Option.none⟩) hb).trans (hc q hlt)
                have k0 : (0 : Int) ≤ (q : Int) := by omega
                have k1 : (q : Int) < (ws.length : Int) := by omega
                have hlo : (Ls.dropK ws v lo hi' q).length ≤ 1000000 := by omega
                have hwl : Ls.wentK ws v lo hi' q ≤ 1000000 := by omega
                by_cases he : ws.getD q [] = v
                · have HS := Lib.hid (seen_yes hlt he)
                  have hgo := gone_is (lo := lo) (hi := hi') he
                  rw [he] at y0
                  have hne : (v != v) = false := by simp
                  have hne2 : (v == v) = true := by simp
                  have HV := Lib.hid he
                  clear hc he hdl
                  by_cases g1 : lo ≤ Ls.seen ws v q
                  · by_cases g2 : Ls.seen ws v q < hi'
                    · rw [decide_eq_true g1, decide_eq_true g2] at hgo
                      have HD := Lib.hid (Ls.dropK_gone hgo)
                      have HW := Lib.hid (Ls.wentK_gone hlt hgo)
                      clear hgo
                      generalize Ls.seen ws v q = s0 at *
                      generalize Ls.wentK ws v lo hi' q = g0 at *
                      go_wp2_with fail
                      go_roundw
                      case rel => exact ⟨q + 1, by omega, by go_num, by rw [HS.out]; go_num, by rw [HW.out]; go_num, by rw [HD.out]; exact HQ⟩
                      case measure => simp [intOf]; omega
                    · rw [decide_eq_true g1, decide_eq_false g2] at hgo
                      have HD := Lib.hid (Ls.dropK_stays hgo)
                      have HW := Lib.hid (Ls.wentK_stays hlt hgo)
                      clear hgo
                      generalize Ls.seen ws v q = s0 at *
                      generalize Ls.wentK ws v lo hi' q = g0 at *
                      rw [HV.out] at HD
                      generalize Ls.dropK ws v lo hi' q = out at HQ hlo HD
                      go_wp2_with (at_builtin; refine wpList_append_own _ rfl (.tmp 76) (.tmp 81) 22 rfl w.heap.size 9 iF _ 1 16 Try.underlying22 hiF hiF0 hiF1 hiF2 rfl (by decide) _ _ _ rfl (HQ.out.1.alloc _) ⟨wr.heap.size, 0, Option.none⟩ 1 1 [.string ⟨v.toArray⟩] rfl rfl (one_news _ _ rfl _ _) (by simp [Value.oneCell']) (by unfold maxLen; omega) (by omega) (by simp; omega) ?_; intro v1 w1 hown hgrow _; have HR2 := Lib.hid (HQ.out.append hown hgrow); have hzw1 := HR2.out.2.size; clear hown hgrow)
                      go_roundw
                      case rel => exact ⟨q + 1, by omega, by go_num, by rw [HS.out]; go_num, by rw [HW.out], by rw [HD.out]; exact HR2⟩
                      case measure => simp [intOf]; omega
                  · rw [decide_eq_false g1, Bool.false_and] at hgo
                    have HD := Lib.hid (Ls.dropK_stays hgo)
                    have HW := Lib.hid (Ls.wentK_stays hlt hgo)
                    clear hgo
                    generalize Ls.seen ws v q = s0 at *
                    generalize Ls.wentK ws v lo hi' q = g0 at *
                    rw [HV.out] at HD
                    generalize Ls.dropK ws v lo hi' q = out at HQ hlo HD
                    go_wp2_with (at_builtin; refine wpList_append_own _ rfl (.tmp 76) (.tmp 81) 22 rfl w.heap.size 9 iF _ 1 16 Try.underlying22 hiF hiF0 hiF1 hiF2 rfl (by decide) _ _ _ rfl (HQ.out.1.alloc _) ⟨wr.heap.size, 0, Option.none⟩ 1 1 [.string ⟨v.toArray⟩] rfl rfl (one_news _ _ rfl _ _) (by simp [Value.oneCell']) (by unfold maxLen; omega) (by omega) (by simp; omega) ?_; intro v1 w1 hown hgrow _; have HR2 := Lib.hid (HQ.out.append hown hgrow); have hzw1 := HR2.out.2.size; clear hown hgrow)
                    go_roundw
                    case rel => exact ⟨q + 1, by omega, by go_num, by rw [HS.out]; go_num, by rw [HW.out], by rw [HD.out]; exact HR2⟩
                    case measure => simp [intOf]; omega
                · have HS := Lib.hid (seen_no hlt he)
                  have hgo := gone_no (lo := lo) (hi := hi') he
                  have HD := Lib.hid (Ls.dropK_stays hgo)
                  have HW := Lib.hid (Ls.wentK_stays hlt hgo)
                  obtain ⟨x, hx⟩ : ∃ x, ws.getD q [] = x := ⟨_, rfl⟩
                  rw [hx] at y0 he HD
                  have hne : (x != v) = true := by simpa using he
                  have hne2 : (x == v) = false := by simpa using he
                  clear hc he hx hgo hdl
                  generalize Ls.seen ws v q = s0 at *
                  generalize Ls.wentK ws v lo hi' q = g0 at *
                  generalize Ls.dropK ws v lo hi' q = out at HQ hlo HD
                  go_wp2_with (at_builtin; refine wpList_append_own _ rfl (.tmp 59) (.tmp 64) 22 rfl w.heap.size 9 iF _ 1 16 Try.underlying22 hiF hiF0 hiF1 hiF2 rfl (by decide) _ _ _ rfl (HQ.out.1.alloc _) ⟨wr.heap.size, 0, Option.none⟩ 1 1 [.string ⟨x.toArray⟩] rfl rfl (one_news _ _ rfl _ _) (by simp [Value.oneCell']) (by unfold maxLen; omega) (by omega) (by simp; omega) ?_; intro v1 w1 hown hgrow _; have HR2 := Lib.hid (HQ.out.append hown hgrow); have hzw1 := HR2.out.2.size; clear hown hgrow)
                  go_roundw
                  case rel => exact ⟨q + 1, by omega, by go_num, by rw [HS.out], by rw [HW.out], by rw [HD.out]; exact HR2⟩
                  case measure => simp [intOf]; omega
              · obtain rfl : q = ws.length := by omega
                rw [HRS.out lo hi' HLO.out HHI.out] at HQ
                have HN := Lib.hid (HRN.out lo hi' HLO.out HHI.out)
                generalize Ls.wentK ws v lo hi' ws.length = g0 at *
                generalize Ls.seen ws v ws.length = s0 at *
                go_wp2_with fail
                go_ret2
                exact ⟨_, by rw [← HN.out]; rfl, HQ.out⟩
          · obtain ⟨lo, hlo0⟩ : ∃ lo : Nat, lo = 0 := ⟨_, rfl⟩
            have hm2 : n ≤ -(hi' : Int) := by omega
            have HLO := Lib.hid (show lo = Ls.loN ws v n by rw [HLO0.out, hlo0]; omega)
            clear hm
            subst hlo0
            go_wp2_with fail
            go_loopw [12, 13, 14, 15] (fun u s g i wr => ∃ q : Nat, q ≤ ws.length ∧ i = .int .i64 q ∧ s = .int .i64 (Ls.seen ws v q) ∧ g = .int .i64 (Ls.wentK ws v 0 hi' q) ∧ Hid (RowW w u (Ls.dropK ws v 0 hi' q) wr)) (fun _ _ _ i _ => ws.length - (intOf i).toNat)
            case atStart => exact ⟨0, Nat.zero_le _, rfl, by rw [Ls.seen_zero]; rfl, by rw [Ls.wentK_zero]; rfl, Lib.hid (RowW.none (Below.refl _ _))⟩
            case round =>
              obtain ⟨q, hq, rfl, rfl, rfl, HQ⟩ := hrel
              have hsl2 := Ls.seen_le ws v q
              have hdl := Ls.dropK_len (ws := ws) (v := v) (lo := 0) (hi := hi') hq
              have hzr := HQ.out.2.size
              by_cases hlt : q < ws.length
              · obtain ⟨b, off, rfl, hb, hc⟩ := HF.out.get (by omega)
                have y0 := (HQ.out.2.cell (p := ⟨b, off + q, Option.none⟩) hb).trans (hc q hlt)
                have k0 : (0 : Int) ≤ (q : Int) := by omega
                have k1 : (q : Int) < (ws.length : Int) := by omega
                have hlo : (Ls.dropK ws v 0 hi' q).length ≤ 1000000 := by omega
                have hwl : Ls.wentK ws v 0 hi' q ≤ 1000000 := by omega
                by_cases he : ws.getD q [] = v
                · have HS := Lib.hid (seen_yes hlt he)
                  have hgo := gone_is (lo := 0) (hi := hi') he
                  rw [he] at y0
                  have hne : (v != v) = false := by simp
                  have hne2 : (v == v) = true := by simp
                  have HV := Lib.hid he
                  clear hc he hdl
                  by_cases g1 : 0 ≤ Ls.seen ws v q
                  · by_cases g2 : Ls.seen ws v q < hi'
                    · rw [decide_eq_true g1, decide_eq_true g2] at hgo
                      have HD := Lib.hid (Ls.dropK_gone hgo)
                      have HW := Lib.hid (Ls.wentK_gone hlt hgo)
                      clear hgo
                      generalize Ls.seen ws v q = s0 at *
                      generalize Ls.wentK ws v 0 hi' q = g0 at *
                      go_wp2_with fail
                      go_roundw
                      case rel => exact ⟨q + 1, by omega, by go_num, by rw [HS.out]; go_num, by rw [HW.out]; go_num, by rw [HD.out]; exact HQ⟩
                      case measure => simp [intOf]; omega
                    · rw [decide_eq_true g1, decide_eq_false g2] at hgo
                      have HD := Lib.hid (Ls.dropK_stays hgo)
                      have HW := Lib.hid (Ls.wentK_stays hlt hgo)
                      clear hgo
                      generalize Ls.seen ws v q = s0 at *
                      generalize Ls.wentK ws v 0 hi' q = g0 at *
                      rw [HV.out] at HD
                      generalize Ls.dropK ws v 0 hi' q = out at HQ hlo HD
                      go_wp2_with (at_builtin; refine wpList_append_own _ rfl (.tmp 76) (.tmp 81) 22 rfl w.heap.size 9 iF _ 1 16 Try.underlying22 hiF hiF0 hiF1 hiF2 rfl (by decide) _ _ _ rfl (HQ.out.1.alloc _) ⟨wr.heap.size, 0, Option.none⟩ 1 1 [.string ⟨v.toArray⟩] rfl rfl (one_news _ _ rfl _ _) (by simp [Value.oneCell']) (by unfold maxLen; omega) (by omega) (by simp; omega) ?_; intro v1 w1 hown hgrow _; have HR2 := Lib.hid (HQ.out.append hown hgrow); have hzw1 := HR2.out.2.size; clear hown hgrow)
                      go_roundw
                      case rel => exact ⟨q + 1, by omega, by go_num, by rw [HS.out]; go_num, by rw [HW.out], by rw [HD.out]; exact HR2⟩
                      case measure => simp [intOf]; omega
                  · exact absurd (Nat.zero_le _) g1
                · have HS := Lib.hid (seen_no hlt he)
                  have hgo := gone_no (lo := 0) (hi := hi') he
                  have HD := Lib.hid (Ls.dropK_stays hgo)
                  have HW := Lib.hid (Ls.wentK_stays hlt hgo)
                  obtain ⟨x, hx⟩ : ∃ x, ws.getD q [] = x := ⟨_, rfl⟩
                  rw [hx] at y0 he HD
                  have hne : (x != v) = true := by simpa using he
                  have hne2 : (x == v) = false := by simpa using he
                  clear hc he hx hgo hdl
                  generalize Ls.seen ws v q = s0 at *
                  generalize Ls.wentK ws v 0 hi' q = g0 at *
                  generalize Ls.dropK ws v 0 hi' q = out at HQ hlo HD
                  go_wp2_with (at_builtin; refine wpList_append_own _ rfl (.tmp 59) (.tmp 64) 22 rfl w.heap.size 9 iF _ 1 16 Try.underlying22 hiF hiF0 hiF1 hiF2 rfl (by decide) _ _ _ rfl (HQ.out.1.alloc _) ⟨wr.heap.size, 0, Option.none⟩ 1 1 [.string ⟨x.toArray⟩] rfl rfl (one_news _ _ rfl _ _) (by simp [Value.oneCell']) (by unfold maxLen; omega) (by omega) (by simp; omega) ?_; intro v1 w1 hown hgrow _; have HR2 := Lib.hid (HQ.out.append hown hgrow); have hzw1 := HR2.out.2.size; clear hown hgrow)
                  go_roundw
                  case rel => exact ⟨q + 1, by omega, by go_num, by rw [HS.out], by rw [HW.out], by rw [HD.out]; exact HR2⟩
                  case measure => simp [intOf]; omega
              · obtain rfl : q = ws.length := by omega
                rw [HRS.out 0 hi' HLO.out HHI.out] at HQ
                have HN := Lib.hid (HRN.out 0 hi' HLO.out HHI.out)
                generalize Ls.wentK ws v 0 hi' ws.length = g0 at *
                generalize Ls.seen ws v ws.length = s0 at *
                go_wp2_with fail
                go_ret2
                exact ⟨_, by rw [← HN.out]; rfl, HQ.out⟩
        · obtain ⟨hi', hhi0⟩ : ∃ hi' : Nat, hi' = Ls.allN ws v := ⟨_, rfl⟩
          obtain ⟨lo, hlo0⟩ : ∃ lo : Nat, lo = 0 := ⟨_, rfl⟩
          have HHI := Lib.hid (show hi' = Ls.hiN ws v n by unfold Ls.hiN; rw [if_neg hp, hhi0])
          have HLO := Lib.hid (show lo = Ls.loN ws v n by unfold Ls.loN; rw [if_neg hn1, hlo0])
          rw [← hhi0] at hal ⊢
          clear hhi0
          subst hlo0
          go_wp2_with fail
          go_loopw [12, 13, 14, 15] (fun u s g i wr => ∃ q : Nat, q ≤ ws.length ∧ i = .int .i64 q ∧ s = .int .i64 (Ls.seen ws v q) ∧ g = .int .i64 (Ls.wentK ws v 0 hi' q) ∧ Hid (RowW w u (Ls.dropK ws v 0 hi' q) wr)) (fun _ _ _ i _ => ws.length - (intOf i).toNat)
          case atStart => exact ⟨0, Nat.zero_le _, rfl, by rw [Ls.seen_zero]; rfl, by rw [Ls.wentK_zero]; rfl, Lib.hid (RowW.none (Below.refl _ _))⟩
          case round =>
            obtain ⟨q, hq, rfl, rfl, rfl, HQ⟩ := hrel
            have hsl2 := Ls.seen_le ws v q
            have hdl := Ls.dropK_len (ws := ws) (v := v) (lo := 0) (hi := hi') hq
            have hzr := HQ.out.2.size
            by_cases hlt : q < ws.length
            · obtain ⟨b, off, rfl, hb, hc⟩ := HF.out.get (by omega)
              have y0 := (HQ.out.2.cell (p := ⟨b, off + q, Option.none⟩) hb).trans (hc q hlt)
              have k0 : (0 : Int) ≤ (q : Int) := by omega
              have k1 : (q : Int) < (ws.length : Int) := by omega
              have hlo : (Ls.dropK ws v 0 hi' q).length ≤ 1000000 := by omega
              have hwl : Ls.wentK ws v 0 hi' q ≤ 1000000 := by omega
              by_cases he : ws.getD q [] = v
              · have HS := Lib.hid (seen_yes hlt he)
                have hgo := gone_is (lo := 0) (hi := hi') he
                rw [he] at y0
                have hne : (v != v) = false := by simp
                have hne2 : (v == v) = true := by simp
                have HV := Lib.hid he
                clear hc he hdl
                by_cases g1 : 0 ≤ Ls.seen ws v q
                · by_cases g2 : Ls.seen ws v q < hi'
                  · rw [decide_eq_true g1, decide_eq_true g2] at hgo
                    have HD := Lib.hid (Ls.dropK_gone hgo)
                    have HW := Lib.hid (Ls.wentK_gone hlt hgo)
                    clear hgo
                    generalize Ls.seen ws v q = s0 at *
                    generalize Ls.wentK ws v 0 hi' q = g0 at *
                    go_wp2_with fail
                    go_roundw
                    case rel => exact ⟨q + 1, by omega, by go_num, by rw [HS.out]; go_num, by rw [HW.out]; go_num, by rw [HD.out]; exact HQ⟩
                    case measure => simp [intOf]; omega
                  · rw [decide_eq_true g1, decide_eq_false g2] at hgo
                    have HD := Lib.hid (Ls.dropK_stays hgo)
                    have HW := Lib.hid (Ls.wentK_stays hlt hgo)
                    clear hgo
                    generalize Ls.seen ws v q = s0 at *
                    generalize Ls.wentK ws v 0 hi' q = g0 at *
                    rw [HV.out] at HD
                    generalize Ls.dropK ws v 0 hi' q = out at HQ hlo HD
                    go_wp2_with (at_builtin; refine wpList_append_own _ rfl (.tmp 76) (.tmp 81) 22 rfl w.heap.size 9 iF _ 1 16 Try.underlying22 hiF hiF0 hiF1 hiF2 rfl (by decide) _ _ _ rfl (HQ.out.1.alloc _) ⟨wr.heap.size, 0, Option.none⟩ 1 1 [.string ⟨v.toArray⟩] rfl rfl (one_news _ _ rfl _ _) (by simp [Value.oneCell']) (by unfold maxLen; omega) (by omega) (by simp; omega) ?_; intro v1 w1 hown hgrow _; have HR2 := Lib.hid (HQ.out.append hown hgrow); have hzw1 := HR2.out.2.size; clear hown hgrow)
                    go_roundw
                    case rel => exact ⟨q + 1, by omega, by go_num, by rw [HS.out]; go_num, by rw [HW.out], by rw [HD.out]; exact HR2⟩
                    case measure => simp [intOf]; omega
                · exact absurd (Nat.zero_le _) g1
              · have HS := Lib.hid (seen_no hlt he)
                have hgo := gone_no (lo := 0) (hi := hi') he
                have HD := Lib.hid (Ls.dropK_stays hgo)
                have HW := Lib.hid (Ls.wentK_stays hlt hgo)
                obtain ⟨x, hx⟩ : ∃ x, ws.getD q [] = x := ⟨_, rfl⟩
                rw [hx] at y0 he HD
                have hne : (x != v) = true := by simpa using he
                have hne2 : (x == v) = false := by simpa using he
                clear hc he hx hgo hdl
                generalize Ls.seen ws v q = s0 at *
                generalize Ls.wentK ws v 0 hi' q = g0 at *
                generalize Ls.dropK ws v 0 hi' q = out at HQ hlo HD
                go_wp2_with (at_builtin; refine wpList_append_own _ rfl (.tmp 59) (.tmp 64) 22 rfl w.heap.size 9 iF _ 1 16 Try.underlying22 hiF hiF0 hiF1 hiF2 rfl (by decide) _ _ _ rfl (HQ.out.1.alloc _) ⟨wr.heap.size, 0, Option.none⟩ 1 1 [.string ⟨x.toArray⟩] rfl rfl (one_news _ _ rfl _ _) (by simp [Value.oneCell']) (by unfold maxLen; omega) (by omega) (by simp; omega) ?_; intro v1 w1 hown hgrow _; have HR2 := Lib.hid (HQ.out.append hown hgrow); have hzw1 := HR2.out.2.size; clear hown hgrow)
                go_roundw
                case rel => exact ⟨q + 1, by omega, by go_num, by rw [HS.out], by rw [HW.out], by rw [HD.out]; exact HR2⟩
                case measure => simp [intOf]; omega
            · obtain rfl : q = ws.length := by omega
              rw [HRS.out 0 hi' HLO.out HHI.out] at HQ
              have HN := Lib.hid (HRN.out 0 hi' HLO.out HHI.out)
              generalize Ls.wentK ws v 0 hi' ws.length = g0 at *
              generalize Ls.seen ws v ws.length = s0 at *
              go_wp2_with fail
              go_ret2
              exact ⟨_, by rw [← HN.out]; rfl, HQ.out⟩
end Go.Proofs.Ytjfjlbgbdjcecaa
