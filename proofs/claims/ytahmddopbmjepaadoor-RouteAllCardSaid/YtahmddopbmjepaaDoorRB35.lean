/- The contract of the statements' own 'Great'. The contracts of the law's Great and Heavy: more than a statement goes through (11). What a space that is not great, and valid, is like. -/
import Derived.Test.YtahmddopbmjepaaDoorRB09
import Derived.BigQuiet
import Derived.LoopTactic
import Derived.Deep.Cut
import Derived.Test.YtahmddopbmjepaaDoorRB10
import Derived.Test.YtahmddopbmjepaaDoorRB19
namespace Go.Proofs.YtahmddopbmjepaaDoor
open Go.RowKit Go.Shelf
set_option linter.unusedVariables false

namespace It
/-- more than a statement goes through. -/
def bigF (p : List UInt8 × List UInt8) : Bool := decide (400 < p.1.length) || decide (400 < p.2.length)
def bigW (t : List UInt8) : Bool := decide (400 < t.length)
def greatB (s : List UInt8) (fs : List (List UInt8 × List UInt8)) (ws : List (List UInt8)) : Bool :=
  (fs.take 60).any bigF || (ws.take 60).any bigW || (decide (1000 < s.length) || decide (50 < fs.length) || decide (50 < ws.length))

theorem any_take_at {α : Type} {l : List α} {d : α} {f : α → Bool} {q : Nat} (h : q < l.length) (h6 : q < 60) (hf : f (l.getD q d) = true) : (l.take 60).any f = true := by
  rw [List.any_eq_true]
  refine ⟨l.getD q d, ?_, hf⟩
  rw [getD_eq h, List.mem_take_iff_getElem]
  exact ⟨q, by omega, rfl⟩
theorem any_take_none {α : Type} {l : List α} {d : α} {f : α → Bool} {q : Nat} (h : ∀ j, j < q → f (l.getD j d) = false) (hq : l.length ≤ q ∨ 60 ≤ q) : (l.take 60).any f = false := by
  rw [List.any_eq_false]
  intro x hx
  rw [List.mem_take_iff_getElem] at hx
  obtain ⟨j, hj, rfl⟩ := hx
  have := h j (by omega)
  rw [getD_eq (by omega)] at this
  simp [this]
theorem great_f {s : List UInt8} {fs : List (List UInt8 × List UInt8)} {ws : List (List UInt8)} {q : Nat} (h : q < fs.length) (h6 : q < 60) (hf : bigF (fs.getD q ([], [])) = true) : greatB s fs ws = true := by
  simp [greatB, any_take_at h h6 hf]
theorem great_w {s : List UInt8} {fs : List (List UInt8 × List UInt8)} {ws : List (List UInt8)} {q : Nat} (h : q < ws.length) (h6 : q < 60) (hf : bigW (ws.getD q []) = true) : greatB s fs ws = true := by
  simp [greatB, any_take_at h h6 hf]
theorem great_end {s : List UInt8} {fs : List (List UInt8 × List UInt8)} {ws : List (List UInt8)} (h1 : (fs.take 60).any bigF = false) (h2 : (ws.take 60).any bigW = false) :
    greatB s fs ws = (decide (1000 < s.length) || decide (50 < fs.length) || decide (50 < ws.length)) := by
  simp [greatB, h1, h2]
theorem great_no {s : List UInt8} {fs : List (List UInt8 × List UInt8)} {ws : List (List UInt8)} (h : greatB s fs ws = false) :
    s.length ≤ 1000 ∧ fs.length ≤ 50 ∧ ws.length ≤ 50 ∧ (∀ p ∈ fs, p.1.length ≤ 400 ∧ p.2.length ≤ 400) ∧ ∀ t ∈ ws, t.length ≤ 400 := by
  simp only [greatB, Bool.or_eq_false_iff, decide_eq_false_iff_not] at h
  obtain ⟨⟨h1, h2⟩, ⟨h3, h4⟩, h5⟩ := h
  rw [List.take_of_length_le (by omega), List.any_eq_false] at h1 h2
  refine ⟨by omega, by omega, by omega, fun p hp => ?_, fun t ht => ?_⟩
  · have := h1 p hp
    simp only [bigF, Bool.or_eq_true, decide_eq_true_eq, not_or] at this
    omega
  · have := h2 t ht
    simp only [bigW, decide_eq_true_eq] at this
    omega
end It

theorem ret_bool {a b : Bool} (h : a = b) : Ending.returned (.bool a) = .returned (.bool b) := by rw [h]

set_option linter.unusedSimpArgs false in
set_option maxRecDepth 100000 in
set_option maxHeartbeats 8000000 in
theorem great_any (k x : Int) (s : List UInt8) (aF : Option Addr) (cF : Nat) (fs : List (List UInt8 × List UInt8)) (aL : Option Addr) (cL : Nat) (ws : List (List UInt8)) (w : World) (hF : Fds w aF cF fs) (hL : Wds w aL cL ws) (hs : s.length ≤ 9223372036854775807) :
    Calls Tryd.prog 24 #[itv k s aF fs.length cF aL ws.length cL x] w fun e w' => e = .returned (.bool (It.greatB s fs ws)) ∧ Below w.heap.size w w' := by
  obtain ⟨W1, hW1⟩ : ∃ W1, w.alloc (itc k s aF fs.length cF aL ws.length cL x) = W1 := ⟨_, rfl⟩
  have hbx : ItBox W1 w.heap.size k s aF fs.length cF aL ws.length cL x := by rw [← hW1]; exact ItBox.new w k s aF fs.length cF aL ws.length cL x
  have hbw : Below w.heap.size w W1 := by rw [← hW1]; exact (Below.refl _ w).alloc (Nat.le_refl _) _
  obtain ⟨c0, c1, c2, c3, c4⟩ := hbx.at
  have hnF : fs.length ≤ 9223372036854775807 := Nat.le_trans hF.1 hF.2.1
  have hnL : ws.length ≤ 9223372036854775807 := Nat.le_trans hL.1 hL.2.1
  have hnFI : (fs.length : Int) ≤ 9223372036854775807 := by omega
  have hnLI : (ws.length : Int) ≤ 9223372036854775807 := by omega
  have HF := Lib.hid (hF.later hbw)
  have HL := Lib.hid (hL.later hbw)
  have HBW := Lib.hid hbw
  have HW1 := Lib.hid hW1
  clear hbx hW1 hF hL hbw
  unfold itv
  go_enter Tryd.func24, Tryd.ntmps24
  go_upto_region 1 with (fail)
  rw [show w.alloc (.cells #[.int .i64 k, .string ⟨s.toArray⟩, .slice aF fs.length cF, .slice aL ws.length cL, .int .i64 x] 68) = W1 from HW1.out]
  clear HW1
  go_wp2_with fail
  go_loop [2, 3] (fun r i => ∃ q : Nat, q ≤ fs.length ∧ q ≤ 60 ∧ r = .bool false ∧ i = .int .i64 q ∧ Hid (∀ j, j < q → It.bigF (fs.getD j ([], [])) = false)) (fun _ i => fs.length - (intOf i).toNat)
  case atStart => exact ⟨0, Nat.zero_le _, Nat.zero_le _, rfl, rfl, Lib.hid fun j h => by omega⟩
  case round =>
    obtain ⟨q, hq, hq6, rfl, rfl, HJ⟩ := hrel
    by_cases hlt : q < fs.length ∧ q < 60
    · obtain ⟨hlt, h60⟩ := hlt
      obtain ⟨b, o, rfl, hb, hc⟩ := HF.out.get (by omega)
      obtain ⟨y0, y1⟩ := hc q hlt
      have hlen := HF.out.len (k := q)
      obtain ⟨n, hn⟩ : ∃ n, (fs.getD q ([], [])).1 = n := ⟨_, rfl⟩
      obtain ⟨v, hv⟩ : ∃ v, (fs.getD q ([], [])).2 = v := ⟨_, rfl⟩
      rw [hn] at y0 hlen
      rw [hv] at y1 hlen
      have e : It.bigF (fs.getD q ([], [])) = (decide (400 < n.length) || decide (400 < v.length)) := by unfold It.bigF; rw [hn, hv]
      have HE := Lib.hid e
      have k0 : (0 : Int) ≤ (q : Int) := by omega
      have k1 : (q : Int) < (fs.length : Int) := by omega
      have k2 : (q : Int) < 60 := by omega
      have kT : ((q : Int)).toNat = q := by omega
      have hl1 := hlen.1
      have hl2 := hlen.2
      clear hn hv hc e hlen
      by_cases hn4 : 400 < n.length
      · have HG := Lib.hid (It.great_f (s := s) (ws := ws) hlt h60 (by rw [HE.out, decide_eq_true hn4]; rfl))
        have i4 : (400 : Int) < (n.length : Int) := by omega
        go_wp2
        go_ret
        exact ⟨by rw [HG.out]; rfl, HBW.out⟩
      · have i4 : (n.length : Int) ≤ 400 := by omega
        by_cases hv4 : 400 < v.length
        · have HG := Lib.hid (It.great_f (s := s) (ws := ws) hlt h60 (by rw [HE.out, decide_eq_true hv4, Bool.or_true]))
          have i5 : (400 : Int) < (v.length : Int) := by omega
          go_wp2
          go_ret
          exact ⟨by rw [HG.out]; rfl, HBW.out⟩
        · have i5 : (v.length : Int) ≤ 400 := by omega
          have HJ2 := Lib.hid (show ∀ j, j < q + 1 → It.bigF (fs.getD j ([], [])) = false from fun j hj => by
            rcases Nat.lt_or_ge j q with h' | h'
            · exact HJ.out j h'
            · obtain rfl : j = q := by omega
              rw [HE.out, decide_eq_false hn4, decide_eq_false hv4]; rfl)
          go_wp2
          go_round
          case rel => exact ⟨q + 1, by omega, by omega, rfl, by go_num, HJ2⟩
          case measure => simp [intOf]; omega
    · have HA := Lib.hid (It.any_take_none HJ.out (by omega))
      have HLT := Lib.hid hlt
      clear HJ
      by_cases hlt2 : q < fs.length
      all_goals
        go_upto_region 6 with (fail)
        go_wp2_with fail
        go_loop [2, 4] (fun r i => ∃ q : Nat, q ≤ ws.length ∧ q ≤ 60 ∧ r = .bool false ∧ i = .int .i64 q ∧ Hid (∀ j, j < q → It.bigW (ws.getD j []) = false)) (fun _ i => ws.length - (intOf i).toNat)
        case atStart => exact ⟨0, Nat.zero_le _, Nat.zero_le _, rfl, rfl, Lib.hid fun j h => by omega⟩
        case round =>
          obtain ⟨p, hp, hp6, rfl, rfl, HJ⟩ := hrel
          by_cases hlt3 : p < ws.length ∧ p < 60
          · obtain ⟨hlt3, h60⟩ := hlt3
            obtain ⟨b, o, rfl, hb, hc⟩ := HL.out.get (by omega)
            have y0 := hc p hlt3
            have hl1 := HL.out.len (k := p)
            obtain ⟨n, hn⟩ : ∃ n, ws.getD p [] = n := ⟨_, rfl⟩
            rw [hn] at y0 hl1
            have HE := Lib.hid (show It.bigW (ws.getD p []) = decide (400 < n.length) by unfold It.bigW; rw [hn])
            have k0 : (0 : Int) ≤ (p : Int) := by omega
            have k1 : (p : Int) < (ws.length : Int) := by omega
            have k2 : (p : Int) < 60 := by omega
            have kT : ((p : Int)).toNat = p := by omega
            clear hn hc
            by_cases hn4 : 400 < n.length
            · have HG := Lib.hid (It.great_w (s := s) (fs := fs) hlt3 h60 (by rw [HE.out, decide_eq_true hn4]))
              have i4 : (400 : Int) < (n.length : Int) := by omega
              go_wp2
              go_ret
              exact ⟨by rw [HG.out]; rfl, HBW.out⟩
            · have i4 : (n.length : Int) ≤ 400 := by omega
              have HJ2 := Lib.hid (show ∀ j, j < p + 1 → It.bigW (ws.getD j []) = false from fun j hj => by
                rcases Nat.lt_or_ge j p with h' | h'
                · exact HJ.out j h'
                · obtain rfl : j = p := by omega
                  rw [HE.out, decide_eq_false hn4])
              go_wp2
              go_round
              case rel => exact ⟨p + 1, by omega, by omega, rfl, by go_num, HJ2⟩
              case measure => simp [intOf]; omega
          · have HEN := Lib.hid (It.great_end (s := s) HA.out (It.any_take_none HJ.out (by omega)))
            have HLT3 := Lib.hid hlt3
            clear HJ
            by_cases hlt4 : p < ws.length
            all_goals
              go_wp2
              all_goals
                go_ret
                refine ⟨ret_bool ?_, HBW.out⟩
                rw [HEN.out, Bool.eq_iff_iff]
                simp only [Bool.or_eq_true, decide_eq_true_eq, eq_self, true_iff]
                omega
end Go.Proofs.YtahmddopbmjepaaDoor
namespace Go.Proofs.YtahmddopbmjepaaDoor
open Go.RowKit Go.Shelf
attribute [local go_sem] Oper.semAt_some
set_option linter.unusedVariables false
set_option linter.unusedSimpArgs false

/-- more than a statement goes through? -/
def greatP (p : Lp) : Bool := decide (200 < p.key.length) || It.greatB p.it.s p.it.fs p.it.ws
def greatPs (ps : List Lp) : Bool := (ps.take 60).any greatP || decide (50 < ps.length)
set_option maxRecDepth 100000 in
set_option maxHeartbeats 4000000 in
theorem dbGreat_any (a : Option Addr) (cap : Nat) (ps : List Lp) (w : World) (hP : Prs w a cap ps) :
    Calls Tryd.prog 8 #[.slice a ps.length cap] w fun r W => r = .returned (.bool (greatPs ps)) ∧ Below w.heap.size w W := by
  have HP := Lib.hid hP
  have hnI : (ps.length : Int) ≤ 9223372036854775807 := by have := hP.len; omega
  have HGR := Lib.hid (show greatPs ps = ((ps.take 60).any greatP || decide (50 < ps.length)) from rfl)
  clear hP
  go_enter Tryd.func8, Tryd.ntmps8
  go_wp2
  go_loopw [3] (fun i wr => ∃ n : Nat, n ≤ ps.length ∧ n ≤ 60 ∧ i = .int .i64 n ∧ Hid ((ps.take n).any greatP = false) ∧ Hid (Below w.heap.size w wr)) (fun i _ => 60 - (intOf i).toNat)
  case atStart => exact ⟨0, Nat.zero_le _, by omega, rfl, Lib.hid (by simp), Lib.hid (Below.refl _ _)⟩
  case round =>
    obtain ⟨n, hn, hn6, rfl, HJ, HK⟩ := hrel
    by_cases hlt : n < ps.length ∧ n < 60
    · obtain ⟨hlt, hl6⟩ := hlt
      have hP1 := HP.out.later HK.out
      obtain ⟨b, off, rfl, hb, hc⟩ := hP1.get (by omega)
      obtain ⟨q0, q1, q2, q3, q4, q5⟩ := hc n hlt
      have hok := hP1.at hlt
      have HX := Lib.hid (show (ps.take (n + 1)).any greatP = ((ps.take n).any greatP || greatP (ps.getD n Lp.zero)) by rw [take_succ_getD (d := Lp.zero) hlt, List.any_append]; simp)
      have HT := Lib.hid (show greatP (ps.getD n Lp.zero) = true → (ps.take 60).any greatP = true from fun h => by
        rw [List.any_eq_true]
        refine ⟨ps.getD n Lp.zero, ?_, h⟩
        rw [getD_eq hlt, ← List.getElem_take (j := 60) (h := by rw [List.length_take]; omega)]
        exact List.getElem_mem _)
      clear hc hP1
      obtain ⟨⟨key, k, s, aF, fs, cF, aL, ws, cL, x⟩, hq⟩ : ∃ q, ps.getD n Lp.zero = q := ⟨_, rfl⟩
      rw [hq] at q0 q1 q2 q3 q4 q5 hok HX HT
      clear hq
      obtain ⟨-, hs, hF, hL, -⟩ := hok
      have hM := great_any k x s aF cF fs aL cL ws wr hF hL hs
      simp only [itv] at hM
      simp only [] at q0 q1 q2 q3 q4 q5
      have k0 : (0 : Int) ≤ (n : Int) := by omega
      have k1 : (n : Int) < (ps.length : Int) := by omega
      have k6 : (n : Int) < 60 := by omega
      have HGA := Lib.hid (show greatP ⟨key, k, s, aF, fs, cF, aL, ws, cL, x⟩ = (decide (200 < key.length) || It.greatB s fs ws) from rfl)
      by_cases hbig : 200 < key.length
      · have b1 : (200 : Int) < (key.length : Int) := by omega
        have HQ := Lib.hid (show greatPs ps = true by rw [HGR.out, HT.out (by rw [HGA.out, decide_eq_true hbig]; rfl)]; rfl)
        clear HX HT hM hbig HGA
        go_wp2
        go_ret
        exact ⟨by rw [HQ.out]; rfl, HK.out⟩
      · have b1 : ¬ (200 : Int) < (key.length : Int) := by omega
        rw [decide_eq_false hbig, Bool.false_or] at HGA
        cases hg : It.greatB s fs ws with
        | true =>
          have HQ := Lib.hid (show greatPs ps = true by rw [HGR.out, HT.out (by rw [HGA.out, hg])]; rfl)
          rw [hg] at hM
          have HM := Lib.hid hM
          clear HX HT hM hbig HGA hg
          go_wp2_with fail
          refine HM.out.mono ?_
          rintro r w1 ⟨rfl, hb1⟩
          have HB2 := Lib.hid (HK.out.trans (hb1.mono HK.out.size))
          clear hb1
          go_wp2
          go_ret
          exact ⟨by rw [HQ.out]; rfl, HB2.out⟩
        | false =>
          have HQ := Lib.hid (show (ps.take (n + 1)).any greatP = false by rw [HX.out, HJ.out, HGA.out, hg]; rfl)
          rw [hg] at hM
          have HM := Lib.hid hM
          clear HX HT hM hbig HGA hg
          go_wp2_with fail
          refine HM.out.mono ?_
          rintro r w1 ⟨rfl, hb1⟩
          have HB2 := Lib.hid (HK.out.trans (hb1.mono HK.out.size))
          clear hb1 q0 q1 q2 q3 q4 q5
          go_wp2
          go_roundw
          case rel => exact ⟨n + 1, by omega, by omega, by go_num, HQ, HB2⟩
          case measure => simp [intOf]; omega
    · have HQ := Lib.hid (show greatPs ps = decide (50 < ps.length) by
        rw [HGR.out, show ps.take 60 = ps.take n by
          rcases Nat.lt_or_ge n ps.length with h | h
          · rw [show n = 60 by omega]
          · rw [List.take_of_length_le h, List.take_of_length_le (by omega)], HJ.out]
        rfl)
      by_cases hl : n < ps.length
      · have k1 : (n : Int) < (ps.length : Int) := by omega
        have k6 : ¬ (n : Int) < 60 := by omega
        have k5 : (50 : Int) < (ps.length : Int) := by omega
        have HQ2 := Lib.hid (HQ.out.trans (decide_eq_true (show 50 < ps.length by omega)))
        go_wp2
        go_ret
        exact ⟨by rw [HQ2.out]; rfl, HK.out⟩
      · have k1 : ¬ (n : Int) < (ps.length : Int) := by omega
        by_cases h5 : 50 < ps.length
        · have k5 : (50 : Int) < (ps.length : Int) := by omega
          have HQ2 := Lib.hid (HQ.out.trans (decide_eq_true h5))
          clear hlt hl h5
          go_wp2
          go_ret
          exact ⟨by rw [HQ2.out]; rfl, HK.out⟩
        · have k5 : ¬ (50 : Int) < (ps.length : Int) := by omega
          have HQ2 := Lib.hid (HQ.out.trans (decide_eq_false h5))
          clear hlt hl h5
          go_wp2
          go_ret
          exact ⟨by rw [HQ2.out]; rfl, HK.out⟩

end Go.Proofs.YtahmddopbmjepaaDoor
namespace Go.Proofs.YtahmddopbmjepaaDoor
open Go.RowKit Go.Shelf
set_option linter.unusedVariables false
set_option linter.unusedSimpArgs false

theorem Rt.lt_tr {a b c : List UInt8} (h : a < b) (h2 : b < c) : a < c := List.lt_trans h h2
/-- the keys rise. -/
def Rt.AscP (ps : List Db.P) : Prop := ps.Pairwise fun p q => p.key < q.key

theorem rtNotGreat_sm {s : List UInt8} {fs : List (List UInt8 × List UInt8)} {ws : List (List UInt8)} (h : It.greatB s fs ws = false) : s.length ≤ 1000000 ∧ fs.length ≤ 1000000 ∧ ws.length ≤ 1000000 ∧ (∀ p ∈ fs, p.1.length ≤ 1000000 ∧ p.2.length ≤ 1000000) ∧ ∀ t ∈ ws, t.length ≤ 1000000 := by
  unfold It.greatB at h
  simp only [Bool.or_eq_false_iff, decide_eq_false_iff_not] at h
  obtain ⟨⟨h1, h2⟩, ⟨h3, h4⟩, h5⟩ := h
  rw [List.take_of_length_le (by omega), List.any_eq_false] at h1 h2
  refine ⟨by omega, by omega, by omega, fun p hp => ?_, fun t ht => ?_⟩
  · have := h1 p hp
    simp only [It.bigF, Bool.or_eq_true, decide_eq_true_eq, not_or] at this
    omega
  · have := h2 t ht
    simp only [It.bigW, decide_eq_true_eq] at this
    omega
theorem rtNotGreatP {ps : List Lp} (h : greatPs ps = false) : ps.length ≤ 50 ∧ ∀ p ∈ ps, p.p.Sm := by
  unfold greatPs at h
  rw [Bool.or_eq_false_iff] at h
  have hl : ps.length ≤ 50 := by have := of_decide_eq_false h.2; omega
  refine ⟨hl, fun p hp => ?_⟩
  have h1 := h.1
  rw [List.take_of_length_le (by omega), List.any_eq_false] at h1
  have h2 := h1 p hp
  simp only [greatP, Bool.or_eq_true, decide_eq_true_eq, not_or, Bool.not_eq_true] at h2
  exact ⟨by have := h2.1; show p.key.length ≤ 1000000; omega, rtNotGreat_sm h2.2⟩
theorem rtMayS_inv {db : List Db.P} (h : Db.mayS db = true) : Rt.AscP db ∧ ∀ p ∈ db, p.key.length ≤ 40 ∧ It.mayB p.it = true := by
  unfold Db.mayS at h
  rw [List.all_eq_true] at h
  have gd : ∀ (j : Nat) (hj : j < db.length), db.getD j Db.P.zero = db[j] := fun j hj => by simp [List.getD, hj]
  have hat : ∀ i (hi : i < db.length), (db[i].key.length ≤ 40 ∧ It.mayB db[i].it = true) ∧ (i = 0 ∨ ∃ hj : i - 1 < db.length, db[i - 1].key < db[i].key) := fun i hi => by
    have h1 := h i (by simpa using hi)
    unfold Db.mayAt at h1
    rw [gd i hi] at h1
    simp only [Bool.and_eq_true, Bool.or_eq_true, decide_eq_true_eq, beq_iff_eq] at h1
    refine ⟨h1.1, h1.2.imp id fun h2 => ?_⟩
    rw [gd (i - 1) (by omega)] at h2
    exact ⟨by omega, h2⟩
  refine ⟨?_, fun p hp => ?_⟩
  · have step : ∀ d i (hi : i + d + 1 < db.length), db[i].key < db[i + d + 1].key := fun d => by
      induction d with
      | zero =>
        intro i hi
        rcases (hat (i + 0 + 1) hi).2 with h1 | ⟨_, h1⟩
        · omega
        · simpa using h1
      | succ d ih =>
        intro i hi
        rcases (hat (i + (d + 1) + 1) hi).2 with h1 | ⟨_, h1⟩
        · omega
        · have h2 := ih i (by omega)
          have e : i + (d + 1) + 1 - 1 = i + d + 1 := by omega
          simp only [e] at h1
          exact Rt.lt_tr h2 h1
    refine List.pairwise_iff_getElem.2 fun i j hi hj hij => ?_
    obtain ⟨d, rfl⟩ : ∃ d, j = i + d + 1 := ⟨j - i - 1, by omega⟩
    exact step d i hj
  · obtain ⟨i, hi, rfl⟩ := List.getElem_of_mem hp
    exact (hat i hi).1
theorem rtAscL {ps : List Lp} (h : Rt.AscP (ps.map Lp.p)) : AscL ps := fun i j hij hj => by
  have := List.pairwise_iff_getElem.1 (List.pairwise_map.1 h) i j (by omega) hj hij
  rw [getD_eq (by omega), getD_eq hj]
  exact this
end Go.Proofs.YtahmddopbmjepaaDoor
