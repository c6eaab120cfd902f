/- The contracts of the reference's plain and may. -/
import Derived.Test.YtcjbfgkmpoebgaaDoorRpSame
import Derived.Test.YtcjbfgkmpoebgaaDoorRpRefEnd
namespace Go.Proofs.YtcjbfgkmpoebgaaDoor
open Go.RowKit Go.Shelf
attribute [local go_sem] Oper.semAt_some
set_option linter.unusedVariables false
set_option linter.unusedSimpArgs false

namespace Rp
theorem headsL_all (lev : Nat) : ∀ l : List R, (headsL lev l).all okB = l.all fun r => (heads lev r).all okB
  | [] => by rw [headsL]; rfl
  | r :: l => by rw [headsL, List.all_append, headsL_all lev l, List.all_cons]
theorem heads_all (lev : Nat) (k : Int) (s : List UInt8) (n : Int) (l : List R) : (heads lev (.mk k s n l)).all okB = (okB (⟨k, s, n, l.length⟩, lev) && l.all fun r => (heads (lev + 1) r).all okB) := by
  rw [heads, List.all_cons, headsL_all]
theorem heads_no {lev : Nat} {k : Int} {s : List UInt8} {n : Int} {l : List R} (h : fitsB ⟨k, s, n, l.length⟩ = false) : (heads lev (.mk k s n l)).all okB = false := by
  rw [heads_all]
  unfold okB
  simp only [h, Bool.false_and]
theorem heads_yes {lev : Nat} {k : Int} {s : List UInt8} {n : Int} {l : List R} (h : fitsB ⟨k, s, n, l.length⟩ = true) (hk : k ≠ 6) (hl : l.length = 0) : (heads lev (.mk k s n l)).all okB = true := by
  rw [heads_all, List.eq_nil_of_length_eq_zero hl]
  rw [List.eq_nil_of_length_eq_zero hl] at h
  unfold okB
  simp only [h, decide_eq_false hk, Bool.false_and, Bool.not_false, Bool.and_true, List.all_nil]
end Rp

set_option maxRecDepth 100000 in
set_option maxHeartbeats 4000000 in
theorem plain_any (s : List UInt8) (w : World) (hl : s.length ≤ 281474976710656) :
    Calls Tryd.prog 36 #[.string ⟨s.toArray⟩] w fun e W => e = .returned (.bool (Rp.plainB s && decide (s.length ≤ 512))) ∧ W = w := by
  have hlI : (s.length : Int) ≤ 281474976710656 := by omega
  go_enter Tryd.func36, Tryd.ntmps36
  go_wp2
  go_loop [2, 3] (fun b i => ∃ q : Nat, q ≤ s.length ∧ b = .bool false ∧ i = .int .i64 (q : Int) ∧ Hid (∀ j, j < q → s.getD j 0 ≠ 13 ∧ s.getD j 0 ≠ 10)) (fun _ i => (s.length : Int).toNat + 1 - (intOf i).toNat)
  case atStart => exact ⟨0, Nat.zero_le _, rfl, rfl, Lib.hid fun j h => by omega⟩
  case round =>
    obtain ⟨q, hq, rfl, rfl, HQ⟩ := hrel
    have q0 : (0 : Int) ≤ (q : Int) := by omega
    have wq1 : IntKind.i64.wrap ((q : Int) + 1) = (q : Int) + 1 := IntWalk.i64_in _ (by omega)
    by_cases h1 : q < s.length
    · have h1I : (q : Int) < (s.length : Int) := by omega
      have hix := idx_at s q h1
      obtain ⟨c, hc⟩ : ∃ c, s.getD q 0 = c := ⟨_, rfl⟩
      rw [hc] at hix
      obtain ⟨y, hy⟩ : ∃ y : Int, (c.toNat : Int) = y := ⟨_, rfl⟩
      rw [hy] at hix
      have hmem : c ∈ s := by rw [← hc]; simp [List.getD, h1]
      by_cases h13 : c = 13
      · have hyv : y = 13 := by rw [← hy, h13]; rfl
        subst hyv
        have HR : Hid (Rp.plainB s = false) := Lib.hid (by unfold Rp.plainB; rw [List.all_eq_false]; exact ⟨c, hmem, by simp [h13]⟩)
        clear hc hy hmem HQ
        go_wp2
        go_ret
        exact ⟨by rw [HR.out]; rfl, rfl⟩
      · have n13 : (y == 13) = false := by rw [beq_eq_false_iff_ne]; intro h; exact h13 (UInt8.toNat_inj.1 (by have : (13 : UInt8).toNat = 13 := rfl; omega))
        have m13 : ¬ y = 13 := beq_eq_false_iff_ne.1 n13
        by_cases h10 : c = 10
        · have hyv : y = 10 := by rw [← hy, h10]; rfl
          subst hyv
          have HR : Hid (Rp.plainB s = false) := Lib.hid (by unfold Rp.plainB; rw [List.all_eq_false]; exact ⟨c, hmem, by simp [h10]⟩)
          clear hc hy hmem HQ
          go_wp2
          go_ret
          exact ⟨by rw [HR.out]; rfl, rfl⟩
        · have n10 : (y == 10) = false := by rw [beq_eq_false_iff_ne]; intro h; exact h10 (UInt8.toNat_inj.1 (by have : (10 : UInt8).toNat = 10 := rfl; omega))
          have m10 : ¬ y = 10 := beq_eq_false_iff_ne.1 n10
          have HQ2 : Hid (∀ j, j < q + 1 → s.getD j 0 ≠ 13 ∧ s.getD j 0 ≠ 10) := Lib.hid fun j hj => by
            rcases Nat.lt_or_ge j q with h | h
            · exact HQ.out j h
            · obtain rfl : j = q := by omega
              rw [hc]; exact ⟨h13, h10⟩
          clear hc hy hmem HQ
          go_wp2
          go_round
          case rel => exact ⟨q + 1, by omega, rfl, by go_num, HQ2⟩
          case measure => simp [intOf]; omega
    · obtain rfl : q = s.length := by omega
      have h1I : ¬ (s.length : Int) < (s.length : Int) := by omega
      have HR : Hid (Rp.plainB s = true) := Lib.hid (by
        unfold Rp.plainB
        rw [List.all_eq_true]
        intro x hx
        obtain ⟨j, hj, rfl⟩ := List.getElem_of_mem hx
        have := HQ.out j hj
        rw [show s.getD j 0 = s[j] by simp [List.getD, hj]] at this
        simp [this.1, this.2])
      clear HQ
      by_cases h5 : s.length ≤ 512
      · have h5I : (s.length : Int) ≤ 512 := by omega
        go_wp2
        go_ret
        exact ⟨by simp [HR.out, h5], rfl⟩
      · have h5I : ¬ (s.length : Int) ≤ 512 := by omega
        go_wp2
        go_ret
        exact ⟨by simp [HR.out, h5], rfl⟩

set_option maxRecDepth 100000 in
set_option maxHeartbeats 8000000 in
theorem may_flat (k : Int) (s : List UInt8) (n : Int) (l : List Rp.R) (a : Option Addr) (c : Nat) (dp : Int) (lev : Nat) (w : World) (hf : Fit k s n l.length c) (hk6 : k ≠ 6) :
    Calls Tryd.prog 25 #[.agg #[.int .i64 k, .string ⟨s.toArray⟩, .int .i64 n, .slice a l.length c], .int .i64 dp] w fun e W => e = .returned (.bool ((Rp.heads lev (.mk k s n l)).all Rp.okB)) ∧ Below w.heap.size w W := by
  obtain ⟨f1, f2, f3, f4, f5, f6, f7, f8⟩ := hf
  have hbel : ∀ o, Below w.heap.size w (w.alloc o) := fun o => (Below.refl _ w).alloc (Nat.le_refl _) o
  have HBL := Lib.hid hbel
  clear hbel
  by_cases hk1 : k = 1
  · by_cases hp : (Rp.plainB s && decide (s.length ≤ 512)) = true
    · have hpp := hp
      simp only [Bool.and_eq_true, decide_eq_true_eq] at hpp
      obtain ⟨hp1, hp2⟩ := hpp
      by_cases hn : n = 0
      · by_cases hm : l.length = 0
        · have hmI : (l.length : Int) = 0 := by omega
          have hmE : ((l.length : Int) == 0) = true := by simp [hm]
          have HR := Lib.hid (show (Rp.heads lev (.mk k s n l)).all Rp.okB = true from Rp.heads_yes (by unfold Rp.fitsB; simp [hk1, hp1, hp2, hn, hm]) hk6 hm)
          have m0 : (0 : Int) ≤ (l.length : Int) := by omega
          generalize hln : l.length = m at *
          clear hln
          go_enter Tryd.func25, Tryd.ntmps25
          go_wp2_with fail
          refine (plain_any s _ (by omega)).mono ?_
          rintro e w2 ⟨rfl, rfl⟩
          rw [hp]
          go_wp2
          go_ret
          exact ⟨by first | (rw [HR.out]; done) | (rw [HR.out]; rfl) | (simp [HR.out]; done) | (have h := HR.out; simp only [hk1] at h; rw [h]; done) | (have h := HR.out; simp only [hk1] at h; rw [h]; rfl), HBL.out _⟩
        · have hmI : ¬ (l.length : Int) = 0 := by omega
          have hmE : ((l.length : Int) == 0) = false := beq_eq_false_iff_ne.2 hmI
          have HR := Lib.hid (show (Rp.heads lev (.mk k s n l)).all Rp.okB = false from Rp.heads_no (by unfold Rp.fitsB; simp [hk1, hp1, hp2, hn, hm]))
          have m0 : (0 : Int) ≤ (l.length : Int) := by omega
          generalize hln : l.length = m at *
          clear hln
          go_enter Tryd.func25, Tryd.ntmps25
          go_wp2_with fail
          refine (plain_any s _ (by omega)).mono ?_
          rintro e w2 ⟨rfl, rfl⟩
          rw [hp]
          go_wp2
          go_ret
          exact ⟨by first | (rw [HR.out]; done) | (rw [HR.out]; rfl) | (simp [HR.out]; done) | (have h := HR.out; simp only [hk1] at h; rw [h]; done) | (have h := HR.out; simp only [hk1] at h; rw [h]; rfl), HBL.out _⟩
      · have hnE : (n == 0) = false := beq_eq_false_iff_ne.2 hn
        have HR := Lib.hid (show (Rp.heads lev (.mk k s n l)).all Rp.okB = false from Rp.heads_no (by unfold Rp.fitsB; simp [hk1, hp1, hp2, hn]))
        have m0 : (0 : Int) ≤ (l.length : Int) := by omega
        generalize hln : l.length = m at *
        clear hln
        go_enter Tryd.func25, Tryd.ntmps25
        go_wp2_with fail
        refine (plain_any s _ (by omega)).mono ?_
        rintro e w2 ⟨rfl, rfl⟩
        rw [hp]
        go_wp2
        go_ret
        exact ⟨by first | (rw [HR.out]; done) | (rw [HR.out]; rfl) | (simp [HR.out]; done) | (have h := HR.out; simp only [hk1] at h; rw [h]; done) | (have h := HR.out; simp only [hk1] at h; rw [h]; rfl), HBL.out _⟩
    · have hp0 := hp
      rw [Bool.not_eq_true] at hp
      have hpp : ¬ (s.length ≤ 512 ∧ Rp.plainB s = true) := fun h => hp0 (by simp [h.1, h.2])
      have HR := Lib.hid (show (Rp.heads lev (.mk k s n l)).all Rp.okB = false from Rp.heads_no (by unfold Rp.fitsB; simp [hk1]; exact fun h1 h2 => absurd ⟨h1, h2⟩ hpp))
      have m0 : (0 : Int) ≤ (l.length : Int) := by omega
      generalize hln : l.length = m at *
      clear hln
      go_enter Tryd.func25, Tryd.ntmps25
      go_wp2_with fail
      refine (plain_any s _ (by omega)).mono ?_
      rintro e w2 ⟨rfl, rfl⟩
      rw [hp]
      go_wp2
      go_ret
      exact ⟨by first | (rw [HR.out]; done) | (rw [HR.out]; rfl) | (simp [HR.out]; done) | (have h := HR.out; simp only [hk1] at h; rw [h]; done) | (have h := HR.out; simp only [hk1] at h; rw [h]; rfl), HBL.out _⟩
  by_cases hk2 : k = 2
  · by_cases hp : (Rp.plainB s && decide (s.length ≤ 512)) = true
    · have hpp := hp
      simp only [Bool.and_eq_true, decide_eq_true_eq] at hpp
      obtain ⟨hp1, hp2⟩ := hpp
      by_cases hn : n = 0
      · by_cases hm : l.length = 0
        · have hmI : (l.length : Int) = 0 := by omega
          have hmE : ((l.length : Int) == 0) = true := by simp [hm]
          have HR := Lib.hid (show (Rp.heads lev (.mk k s n l)).all Rp.okB = true from Rp.heads_yes (by unfold Rp.fitsB; simp [hk2, hp1, hp2, hn, hm]) hk6 hm)
          have m0 : (0 : Int) ≤ (l.length : Int) := by omega
          generalize hln : l.length = m at *
          clear hln
          go_enter Tryd.func25, Tryd.ntmps25
          go_wp2_with fail
          refine (plain_any s _ (by omega)).mono ?_
          rintro e w2 ⟨rfl, rfl⟩
          rw [hp]
          go_wp2
          go_ret
          exact ⟨by first | (rw [HR.out]; done) | (rw [HR.out]; rfl) | (simp [HR.out]; done) | (have h := HR.out; simp only [hk2] at h; rw [h]; done) | (have h := HR.out; simp only [hk2] at h; rw [h]; rfl), HBL.out _⟩
        · have hmI : ¬ (l.length : Int) = 0 := by omega
          have hmE : ((l.length : Int) == 0) = false := beq_eq_false_iff_ne.2 hmI
          have HR := Lib.hid (show (Rp.heads lev (.mk k s n l)).all Rp.okB = false from Rp.heads_no (by unfold Rp.fitsB; simp [hk2, hp1, hp2, hn, hm]))
          have m0 : (0 : Int) ≤ (l.length : Int) := by omega
          generalize hln : l.length = m at *
          clear hln
          go_enter Tryd.func25, Tryd.ntmps25
          go_wp2_with fail
          refine (plain_any s _ (by omega)).mono ?_
          rintro e w2 ⟨rfl, rfl⟩
          rw [hp]
          go_wp2
          go_ret
          exact ⟨by first | (rw [HR.out]; done) | (rw [HR.out]; rfl) | (simp [HR.out]; done) | (have h := HR.out; simp only [hk2] at h; rw [h]; done) | (have h := HR.out; simp only [hk2] at h; rw [h]; rfl), HBL.out _⟩
      · have hnE : (n == 0) = false := beq_eq_false_iff_ne.2 hn
        have HR := Lib.hid (show (Rp.heads lev (.mk k s n l)).all Rp.okB = false from Rp.heads_no (by unfold Rp.fitsB; simp [hk2, hp1, hp2, hn]))
        have m0 : (0 : Int) ≤ (l.length : Int) := by omega
        generalize hln : l.length = m at *
        clear hln
        go_enter Tryd.func25, Tryd.ntmps25
        go_wp2_with fail
        refine (plain_any s _ (by omega)).mono ?_
        rintro e w2 ⟨rfl, rfl⟩
        rw [hp]
        go_wp2
        go_ret
        exact ⟨by first | (rw [HR.out]; done) | (rw [HR.out]; rfl) | (simp [HR.out]; done) | (have h := HR.out; simp only [hk2] at h; rw [h]; done) | (have h := HR.out; simp only [hk2] at h; rw [h]; rfl), HBL.out _⟩
    · have hp0 := hp
      rw [Bool.not_eq_true] at hp
      have hpp : ¬ (s.length ≤ 512 ∧ Rp.plainB s = true) := fun h => hp0 (by simp [h.1, h.2])
      have HR := Lib.hid (show (Rp.heads lev (.mk k s n l)).all Rp.okB = false from Rp.heads_no (by unfold Rp.fitsB; simp [hk2]; exact fun h1 h2 => absurd ⟨h1, h2⟩ hpp))
      have m0 : (0 : Int) ≤ (l.length : Int) := by omega
      generalize hln : l.length = m at *
      clear hln
      go_enter Tryd.func25, Tryd.ntmps25
      go_wp2_with fail
      refine (plain_any s _ (by omega)).mono ?_
      rintro e w2 ⟨rfl, rfl⟩
      rw [hp]
      go_wp2
      go_ret
      exact ⟨by first | (rw [HR.out]; done) | (rw [HR.out]; rfl) | (simp [HR.out]; done) | (have h := HR.out; simp only [hk2] at h; rw [h]; done) | (have h := HR.out; simp only [hk2] at h; rw [h]; rfl), HBL.out _⟩
  by_cases hk3 : k = 3
  · by_cases hs : s = []
    · by_cases hm : l.length = 0
      · have hmI : (l.length : Int) = 0 := by omega
        have hmE : ((l.length : Int) == 0) = true := by simp [hm]
        have HR := Lib.hid (show (Rp.heads lev (.mk k s n l)).all Rp.okB = true from Rp.heads_yes (by unfold Rp.fitsB; simp [hk3, hs, hm]) hk6 hm)
        have m0 : (0 : Int) ≤ (l.length : Int) := by omega
        generalize hln : l.length = m at *
        clear hln
        go_enter Tryd.func25, Tryd.ntmps25
        go_wp2
        go_ret
        exact ⟨by first | (rw [HR.out]; done) | (rw [HR.out]; rfl) | (simp [HR.out]; done) | (have h := HR.out; simp only [hk3] at h; rw [h]; done) | (have h := HR.out; simp only [hk3] at h; rw [h]; rfl), HBL.out _⟩
      · have hmI : ¬ (l.length : Int) = 0 := by omega
        have hmE : ((l.length : Int) == 0) = false := beq_eq_false_iff_ne.2 hmI
        have HR := Lib.hid (show (Rp.heads lev (.mk k s n l)).all Rp.okB = false from Rp.heads_no (by unfold Rp.fitsB; simp [hk3, hs, hm]))
        have m0 : (0 : Int) ≤ (l.length : Int) := by omega
        generalize hln : l.length = m at *
        clear hln
        go_enter Tryd.func25, Tryd.ntmps25
        go_wp2
        go_ret
        exact ⟨by first | (rw [HR.out]; done) | (rw [HR.out]; rfl) | (simp [HR.out]; done) | (have h := HR.out; simp only [hk3] at h; rw [h]; done) | (have h := HR.out; simp only [hk3] at h; rw [h]; rfl), HBL.out _⟩
    · have hsE : List.isEmpty s = false := by cases s with
        | nil => exact (hs rfl).elim
        | cons _ _ => rfl
      have HR := Lib.hid (show (Rp.heads lev (.mk k s n l)).all Rp.okB = false from Rp.heads_no (by unfold Rp.fitsB; simp [hk3, hs]))
      have m0 : (0 : Int) ≤ (l.length : Int) := by omega
      generalize hln : l.length = m at *
      clear hln
      go_enter Tryd.func25, Tryd.ntmps25
      go_wp2
      go_ret
      exact ⟨by first | (rw [HR.out]; done) | (rw [HR.out]; rfl) | (simp [HR.out]; done) | (have h := HR.out; simp only [hk3] at h; rw [h]; done) | (have h := HR.out; simp only [hk3] at h; rw [h]; rfl), HBL.out _⟩
  by_cases hk4 : k = 4
  · by_cases hb : s.length ≤ 1048576
    · have hbI : (s.length : Int) ≤ 1048576 := by omega
      by_cases hn : n = 0
      · by_cases hm : l.length = 0
        · have hmI : (l.length : Int) = 0 := by omega
          have hmE : ((l.length : Int) == 0) = true := by simp [hm]
          have HR := Lib.hid (show (Rp.heads lev (.mk k s n l)).all Rp.okB = true from Rp.heads_yes (by unfold Rp.fitsB; simp [hk4, hb, hn, hm]) hk6 hm)
          have m0 : (0 : Int) ≤ (l.length : Int) := by omega
          generalize hln : l.length = m at *
          clear hln
          go_enter Tryd.func25, Tryd.ntmps25
          go_wp2
          go_ret
          exact ⟨by first | (rw [HR.out]; done) | (rw [HR.out]; rfl) | (simp [HR.out]; done) | (have h := HR.out; simp only [hk4] at h; rw [h]; done) | (have h := HR.out; simp only [hk4] at h; rw [h]; rfl), HBL.out _⟩
        · have hmI : ¬ (l.length : Int) = 0 := by omega
          have hmE : ((l.length : Int) == 0) = false := beq_eq_false_iff_ne.2 hmI
          have HR := Lib.hid (show (Rp.heads lev (.mk k s n l)).all Rp.okB = false from Rp.heads_no (by unfold Rp.fitsB; simp [hk4, hb, hn, hm]))
          have m0 : (0 : Int) ≤ (l.length : Int) := by omega
          generalize hln : l.length = m at *
          clear hln
          go_enter Tryd.func25, Tryd.ntmps25
          go_wp2
          go_ret
          exact ⟨by first | (rw [HR.out]; done) | (rw [HR.out]; rfl) | (simp [HR.out]; done) | (have h := HR.out; simp only [hk4] at h; rw [h]; done) | (have h := HR.out; simp only [hk4] at h; rw [h]; rfl), HBL.out _⟩
      · have hnE : (n == 0) = false := beq_eq_false_iff_ne.2 hn
        have HR := Lib.hid (show (Rp.heads lev (.mk k s n l)).all Rp.okB = false from Rp.heads_no (by unfold Rp.fitsB; simp [hk4, hb, hn]))
        have m0 : (0 : Int) ≤ (l.length : Int) := by omega
        generalize hln : l.length = m at *
        clear hln
        go_enter Tryd.func25, Tryd.ntmps25
        go_wp2
        go_ret
        exact ⟨by first | (rw [HR.out]; done) | (rw [HR.out]; rfl) | (simp [HR.out]; done) | (have h := HR.out; simp only [hk4] at h; rw [h]; done) | (have h := HR.out; simp only [hk4] at h; rw [h]; rfl), HBL.out _⟩
    · have hbI : ¬ (s.length : Int) ≤ 1048576 := by omega
      have HR := Lib.hid (show (Rp.heads lev (.mk k s n l)).all Rp.okB = false from Rp.heads_no (by unfold Rp.fitsB; simp [hk4, hb]))
      have m0 : (0 : Int) ≤ (l.length : Int) := by omega
      generalize hln : l.length = m at *
      clear hln
      go_enter Tryd.func25, Tryd.ntmps25
      go_wp2
      go_ret
      exact ⟨by first | (rw [HR.out]; done) | (rw [HR.out]; rfl) | (simp [HR.out]; done) | (have h := HR.out; simp only [hk4] at h; rw [h]; done) | (have h := HR.out; simp only [hk4] at h; rw [h]; rfl), HBL.out _⟩
  by_cases hk5 : k = 5
  · by_cases hs : s = []
    · by_cases hn : n = 0
      · by_cases hm : l.length = 0
        · have hmI : (l.length : Int) = 0 := by omega
          have hmE : ((l.length : Int) == 0) = true := by simp [hm]
          have HR := Lib.hid (show (Rp.heads lev (.mk k s n l)).all Rp.okB = true from Rp.heads_yes (by unfold Rp.fitsB; simp [hk5, hs, hn, hm]) hk6 hm)
          have m0 : (0 : Int) ≤ (l.length : Int) := by omega
          generalize hln : l.length = m at *
          clear hln
          go_enter Tryd.func25, Tryd.ntmps25
          go_wp2
          go_ret
          exact ⟨by first | (rw [HR.out]; done) | (rw [HR.out]; rfl) | (simp [HR.out]; done) | (have h := HR.out; simp only [hk5] at h; rw [h]; done) | (have h := HR.out; simp only [hk5] at h; rw [h]; rfl), HBL.out _⟩
        · have hmI : ¬ (l.length : Int) = 0 := by omega
          have hmE : ((l.length : Int) == 0) = false := beq_eq_false_iff_ne.2 hmI
          have HR := Lib.hid (show (Rp.heads lev (.mk k s n l)).all Rp.okB = false from Rp.heads_no (by unfold Rp.fitsB; simp [hk5, hs, hn, hm]))
          have m0 : (0 : Int) ≤ (l.length : Int) := by omega
          generalize hln : l.length = m at *
          clear hln
          go_enter Tryd.func25, Tryd.ntmps25
          go_wp2
          go_ret
          exact ⟨by first | (rw [HR.out]; done) | (rw [HR.out]; rfl) | (simp [HR.out]; done) | (have h := HR.out; simp only [hk5] at h; rw [h]; done) | (have h := HR.out; simp only [hk5] at h; rw [h]; rfl), HBL.out _⟩
      · have hnE : (n == 0) = false := beq_eq_false_iff_ne.2 hn
        have HR := Lib.hid (show (Rp.heads lev (.mk k s n l)).all Rp.okB = false from Rp.heads_no (by unfold Rp.fitsB; simp [hk5, hs, hn]))
        have m0 : (0 : Int) ≤ (l.length : Int) := by omega
        generalize hln : l.length = m at *
        clear hln
        go_enter Tryd.func25, Tryd.ntmps25
        go_wp2
        go_ret
        exact ⟨by first | (rw [HR.out]; done) | (rw [HR.out]; rfl) | (simp [HR.out]; done) | (have h := HR.out; simp only [hk5] at h; rw [h]; done) | (have h := HR.out; simp only [hk5] at h; rw [h]; rfl), HBL.out _⟩
    · have hsE : List.isEmpty s = false := by cases s with
        | nil => exact (hs rfl).elim
        | cons _ _ => rfl
      have HR := Lib.hid (show (Rp.heads lev (.mk k s n l)).all Rp.okB = false from Rp.heads_no (by unfold Rp.fitsB; simp [hk5, hs]))
      have m0 : (0 : Int) ≤ (l.length : Int) := by omega
      generalize hln : l.length = m at *
      clear hln
      go_enter Tryd.func25, Tryd.ntmps25
      go_wp2
      go_ret
      exact ⟨by first | (rw [HR.out]; done) | (rw [HR.out]; rfl) | (simp [HR.out]; done) | (have h := HR.out; simp only [hk5] at h; rw [h]; done) | (have h := HR.out; simp only [hk5] at h; rw [h]; rfl), HBL.out _⟩
  have e1 : (k == 1) = false := beq_eq_false_iff_ne.2 hk1
  have e2 : (k == 2) = false := beq_eq_false_iff_ne.2 hk2
  have e3 : (k == 3) = false := beq_eq_false_iff_ne.2 hk3
  have e4 : (k == 4) = false := beq_eq_false_iff_ne.2 hk4
  have e5 : (k == 5) = false := beq_eq_false_iff_ne.2 hk5
  have e6 : (k == 6) = false := beq_eq_false_iff_ne.2 hk6
  have HR := Lib.hid (show (Rp.heads lev (.mk k s n l)).all Rp.okB = false from Rp.heads_no (by unfold Rp.fitsB; simp [hk1, hk2, hk3, hk4, hk5, hk6]))
  have m0 : (0 : Int) ≤ (l.length : Int) := by omega
  generalize hln : l.length = m at *
  clear hln
  go_enter Tryd.func25, Tryd.ntmps25
  go_wp2
  go_ret
  exact ⟨by first | (rw [HR.out]; done) | (rw [HR.out]; rfl) | (simp [HR.out]; done) | (have h := HR.out; simp only [hk1] at h; rw [h]; done) | (have h := HR.out; simp only [hk1] at h; rw [h]; rfl), HBL.out _⟩
end Go.Proofs.YtcjbfgkmpoebgaaDoor
