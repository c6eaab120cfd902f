/- The contracts of the reference's may at arrays, and of MayReply. -/
import Derived.Test.YtcjbfgkmpoebgaaDoorRpRefMay
import Derived.LoopTactic
namespace Go.Proofs.YtcjbfgkmpoebgaaDoor
open Go.RowKit Go.Shelf
attribute [local go_sem] Oper.semAt_some
set_option linter.unusedVariables false
set_option linter.unusedSimpArgs false

set_option maxRecDepth 100000 in
set_option maxHeartbeats 8000000 in
theorem may_ref : ∀ (N : Nat) (x : Rp.R) (lev : Nat) (a : Option Addr) (c : Nat) (w : World), (Rp.heads 0 x).length ≤ N → lev ≤ 8 → RepA w x (rv x.k x.s x.n a x.l.length c) →
    Calls Tryd.prog 25 #[rv x.k x.s x.n a x.l.length c, .int .i64 (8 - (lev : Int))] w fun e W => e = .returned (.bool ((Rp.heads lev x).all Rp.okB)) ∧ Below w.heap.size w W := by
  intro N
  induction N with
  | zero =>
    intro x lev a c w hN
    have := Rp.heads_ne 0 x
    omega
  | succ N ih =>
    intro x lev a c w hN hlev hx
    have hrec : ∀ j (h : j < x.l.length), (Rp.heads 0 x.l[j]).length ≤ N := fun j h => by have := Rp.heads_lt h; omega
    obtain ⟨k, s, n, l⟩ := x
    simp only [Rp.R.k, Rp.R.s, Rp.R.n, Rp.R.l] at hx hrec ⊢
    obtain ⟨-, hf, hxl⟩ := hx.at
    unfold rv
    by_cases hk6 : k = 6
    rotate_left
    · exact may_flat k s n l a c _ lev w hf hk6
    obtain ⟨f1, f2, f3, f4, f5, f6, f7, f8⟩ := hf
    have hbel : ∀ o, Below w.heap.size w (w.alloc o) := fun o => (Below.refl _ w).alloc (Nat.le_refl _) o
    have HBL := Lib.hid hbel
    have HX := Lib.hid hxl
    have HR0 := Lib.hid hrec
    have IH := Lib.hid ih
    clear hx hN hbel hxl hrec ih
    have l0 : (0 : Int) ≤ (lev : Int) := by omega
    have l8 : (lev : Int) ≤ 8 := by omega
    by_cases hs : s = []
    rotate_left
    · have hsE : List.isEmpty s = false := by cases s with
        | nil => exact (hs rfl).elim
        | cons _ _ => rfl
      have HR := Lib.hid (show (Rp.heads lev (.mk k s n l)).all Rp.okB = false from Rp.heads_no (by unfold Rp.fitsB; simp [hk6, hs]))
      have m0 : (0 : Int) ≤ (l.length : Int) := by omega
      clear HX HR0 IH
      generalize hln : l.length = m at *
      clear hln
      go_enter Tryd.func25, Tryd.ntmps25
      go_wp2
      go_ret
      exact ⟨by first | (rw [HR.out]; done) | (rw [HR.out]; rfl) | (simp [HR.out]; done) | (have h := HR.out; simp only [hk6] at h; rw [h]; done) | (have h := HR.out; simp only [hk6] at h; rw [h]; rfl), HBL.out _⟩
    by_cases hn : n = 0
    rotate_left
    · have hnE : (n == 0) = false := beq_eq_false_iff_ne.2 hn
      have HR := Lib.hid (show (Rp.heads lev (.mk k s n l)).all Rp.okB = false from Rp.heads_no (by unfold Rp.fitsB; simp [hk6, hs, hn]))
      have m0 : (0 : Int) ≤ (l.length : Int) := by omega
      clear HX HR0 IH
      generalize hln : l.length = m at *
      clear hln
      go_enter Tryd.func25, Tryd.ntmps25
      go_wp2
      go_ret
      exact ⟨by first | (rw [HR.out]; done) | (rw [HR.out]; rfl) | (simp [HR.out]; done) | (have h := HR.out; simp only [hk6] at h; rw [h]; done) | (have h := HR.out; simp only [hk6] at h; rw [h]; rfl), HBL.out _⟩
    by_cases hm : l.length ≤ 65536
    rotate_left
    · have hmg : (65536 : Int) < (l.length : Int) := by omega
      have HR := Lib.hid (show (Rp.heads lev (.mk k s n l)).all Rp.okB = false from Rp.heads_no (by unfold Rp.fitsB; simp [hk6, hs, hn, hm]))
      have m0 : (0 : Int) ≤ (l.length : Int) := by omega
      clear HX HR0 IH
      generalize hln : l.length = m at *
      clear hln
      go_enter Tryd.func25, Tryd.ntmps25
      go_wp2
      go_ret
      exact ⟨by first | (rw [HR.out]; done) | (rw [HR.out]; rfl) | (simp [HR.out]; done) | (have h := HR.out; simp only [hk6] at h; rw [h]; done) | (have h := HR.out; simp only [hk6] at h; rw [h]; rfl), HBL.out _⟩
    have hmI : (l.length : Int) ≤ 65536 := by omega
    have hmg : ¬ (65536 : Int) < (l.length : Int) := by omega
    by_cases h8 : lev = 8
    · have HR := Lib.hid (show (Rp.heads lev (.mk k s n l)).all Rp.okB = false by
        rw [Rp.heads_all]
        unfold Rp.okB
        simp [hk6, h8])
      have hlt1 : 8 - (lev : Int) < 1 := by omega
      have m0 : (0 : Int) ≤ (l.length : Int) := by omega
      clear HX HR0 IH
      generalize hln : l.length = m at *
      clear hln
      obtain ⟨D, hD⟩ : ∃ D : Int, 8 - (lev : Int) = D := ⟨_, rfl⟩
      rw [hD] at hlt1 ⊢
      clear hD
      go_enter Tryd.func25, Tryd.ntmps25
      go_wp2
      go_ret
      exact ⟨by have h := HR.out; simp only [hk6, hs, hn, h8] at h; first | (rw [h]; done) | (rw [h]; rfl), HBL.out _⟩
    · have hfit : Rp.okB (⟨k, s, n, l.length⟩, lev) = true := by
        unfold Rp.okB Rp.fitsB
        simp [hk6, hs, hn, hm]
        omega
      have HR := Lib.hid (show (Rp.heads lev (.mk k s n l)).all Rp.okB = l.all fun r => (Rp.heads (lev + 1) r).all Rp.okB by rw [Rp.heads_all, hfit, Bool.true_and])
      have hlt1 : ¬ 8 - (lev : Int) < 1 := by omega
      obtain ⟨D, hD⟩ : ∃ D : Int, 8 - (lev : Int) = D := ⟨_, rfl⟩
      have hD1 : IntKind.i64.wrap (D - 1) = D - 1 := IntWalk.i64_in _ (by omega)
      have hDD : D - 1 = 8 - ((lev + 1 : Nat) : Int) := by omega
      have HDD := Lib.hid hDD
      have hl9 : lev + 1 ≤ 8 := by omega
      rw [hD] at hlt1 ⊢
      rw [HR.out]
      subst hk6
      subst hs
      subst hn
      clear hD hDD hfit
      obtain ⟨w1, hw1⟩ : ∃ w1, w.alloc (.cells #[.int .i64 6, .string ⟨([] : List UInt8).toArray⟩, .int .i64 0, .slice a l.length c] 24) = w1 := ⟨_, rfl⟩
      have hp1 := World.alloc_heap_new w (.cells #[.int .i64 6, .string ⟨([] : List UInt8).toArray⟩, .int .i64 0, .slice a l.length c] 24)
      have hb1 := HBL.out (.cells #[.int .i64 6, .string ⟨([] : List UInt8).toArray⟩, .int .i64 0, .slice a l.length c] 24)
      rw [hw1] at hp1 hb1
      have HW1 := Lib.hid hw1
      have HP1 := Lib.hid hp1
      have HB1 := Lib.hid hb1
      have hz1 : w.heap.size < w1.heap.size := (Array.getElem?_eq_some_iff.1 hp1).1
      obtain ⟨p0, p1, p2, p3⟩ := cells_four hp1
      clear hw1 hp1 hb1
      go_enter Tryd.func25, Tryd.ntmps25
      go_upto_region 1 with (fail)
      rw [show w.alloc (.cells #[.int .i64 6, .string ⟨([] : List UInt8).toArray⟩, .int .i64 0, .slice a l.length c] 24) = w1 from HW1.out]
      clear HW1
      go_upto_region 14 with (fail)
      go_wp2_with fail
      clear p0 p1 p2 p3
      go_loopw [4, 5] (fun b i wr => ∃ q : Nat, q ≤ l.length ∧ b = .bool false ∧ i = .int .i64 (q : Int) ∧ Hid (∀ j (h : j < l.length), j < q → (Rp.heads (lev + 1) l[j]).all Rp.okB = true) ∧ Hid (Below w1.heap.size w1 wr)) (fun _ i _ => l.length - (intOf i).toNat)
      case atStart => exact ⟨0, Nat.zero_le _, rfl, rfl, Lib.hid fun j _ h => by omega, Lib.hid (Below.refl _ _)⟩
      case round =>
        obtain ⟨q, hq, rfl, rfl, HQ, HB⟩ := hrel
        have hpr := (HB.out.block _ hz1).trans HP1.out
        obtain ⟨p0, p1, p2, p3⟩ := cells_four hpr
        have hbr : Below w.heap.size w wr := HB1.out.trans (HB.out.mono HB1.out.size)
        have HBR := Lib.hid hbr
        have q0 : (0 : Int) ≤ (q : Int) := by omega
        have wq1 : IntKind.i64.wrap ((q : Int) + 1) = (q : Int) + 1 := IntWalk.i64_in _ (by omega)
        clear hpr
        by_cases hlt : q < l.length
        · have hltI : (q : Int) < (l.length : Int) := by omega
          obtain ⟨bb, off, rfl, hbb, hce⟩ := HX.out.resolve_left (by intro h; rw [h] at hlt; simp at hlt)
          obtain ⟨aj, cj, c0, c1, c2, c3, hrep⟩ := hce q hlt
          replace c0 := (hbr.cell (p := ⟨bb, off + q * 4, none⟩) hbb).trans c0
          replace c1 := (hbr.cell (p := ⟨bb, off + q * 4 + 1, none⟩) hbb).trans c1
          replace c2 := (hbr.cell (p := ⟨bb, off + q * 4 + 2, none⟩) hbb).trans c2
          replace c3 := (hbr.cell (p := ⟨bb, off + q * 4 + 3, none⟩) hbb).trans c3
          have hcl := IH.out l[q] (lev + 1) aj cj wr (HR0.out q hlt) hl9 (RepA.later hrep hbr)
          rw [← HDD.out] at hcl
          unfold rv at hcl
          obtain ⟨r, hr⟩ : ∃ r, l[q] = r := ⟨_, rfl⟩
          rw [hr] at c0 c1 c2 c3 hcl
          have HL := Lib.hid hr
          have HC := Lib.hid hcl
          clear hrep hcl hce hbb hbr hr
          obtain ⟨ok, hok⟩ : ∃ ok, (Rp.heads (lev + 1) r).all Rp.okB = ok := ⟨_, rfl⟩
          rw [hok] at HC
          have HOK := Lib.hid hok
          clear hok
          go_wp2_with fail
          refine HC.out.mono ?_
          rintro e w2 ⟨rfl, hb2⟩
          have HB2 := Lib.hid (HB.out.trans (hb2.mono HB.out.size))
          have HBR2 := Lib.hid (HBR.out.trans (hb2.mono HBR.out.size))
          clear hb2 c0 c1 c2 c3 p0 p1 p2 p3
          cases ok with
          | false =>
            have HF : Hid ((l.all fun r => (Rp.heads (lev + 1) r).all Rp.okB) = false) := Lib.hid (by
              rw [List.all_eq_false]
              exact ⟨l[q], List.getElem_mem hlt, by rw [HL.out, HOK.out]; decide⟩)
            go_wp2_with fail
            go_ret
            exact ⟨by rw [HF.out]; rfl, HBR2.out⟩
          | true =>
            have HQ2 : Hid (∀ j (h : j < l.length), j < q + 1 → (Rp.heads (lev + 1) l[j]).all Rp.okB = true) := Lib.hid fun j h hj => by
              rcases Nat.lt_or_ge j q with h' | h'
              · exact HQ.out j h h'
              · obtain rfl : j = q := by omega
                rw [HL.out, HOK.out]
            go_wp2_with fail
            go_roundw
            case rel => exact ⟨q + 1, by omega, rfl, by go_num, HQ2, HB2⟩
            case measure => simp [intOf]; omega
        · obtain rfl : q = l.length := by omega
          have hnl : ¬ (l.length : Int) < (l.length : Int) := by omega
          have HT : Hid ((l.all fun r => (Rp.heads (lev + 1) r).all Rp.okB) = true) := Lib.hid (by
            rw [List.all_eq_true]
            intro r hr
            obtain ⟨j, hj, rfl⟩ := List.getElem_of_mem hr
            exact HQ.out j hj hj)
          clear HQ HX
          go_wp2
          go_ret
          exact ⟨by rw [HT.out]; rfl, HBR.out⟩

set_option maxRecDepth 100000 in
set_option maxHeartbeats 4000000 in
theorem mayReply_any (x : Rp.R) (a : Option Addr) (c : Nat) (w : World) (hx : RepA w x (rv x.k x.s x.n a x.l.length c)) :
    Calls Tryd.prog 12 #[rv x.k x.s x.n a x.l.length c] w fun e W => e = .returned (.bool (Rp.mayB x)) ∧ Below w.heap.size w W := by
  unfold rv at hx ⊢
  obtain ⟨w1, hw1⟩ : ∃ w1, w.alloc (.cells #[.int .i64 x.k, .string ⟨x.s.toArray⟩, .int .i64 x.n, .slice a x.l.length c] 24) = w1 := ⟨_, rfl⟩
  have hp1 := World.alloc_heap_new w (.cells #[.int .i64 x.k, .string ⟨x.s.toArray⟩, .int .i64 x.n, .slice a x.l.length c] 24)
  have hb1 : Below w.heap.size w w1 := by rw [← hw1]; exact (Below.refl _ w).alloc (Nat.le_refl _) _
  rw [hw1] at hp1
  have hcl := may_ref _ x 0 a c w1 (Nat.le_refl _) (by decide) (RepA.later hx hb1)
  unfold rv at hcl
  rw [show (8 - ((0 : Nat) : Int)) = 8 from rfl] at hcl
  obtain ⟨p0, p1, p2, p3⟩ := cells_four hp1
  have HC := Lib.hid hcl
  have HB := Lib.hid hb1
  have HW := Lib.hid hw1
  clear hcl hb1 hw1 hp1 hx
  go_enter Tryd.func12, Tryd.ntmps12
  go_upto_region 1 with (fail)
  rw [show w.alloc (.cells #[.int .i64 x.k, .string ⟨x.s.toArray⟩, .int .i64 x.n, .slice a x.l.length c] 24) = w1 from HW.out]
  go_wp2_with fail
  refine HC.out.mono ?_
  rintro e w2 ⟨rfl, hb2⟩
  have HB2 := Lib.hid (HB.out.trans (hb2.mono HB.out.size))
  clear hb2
  go_wp2_with fail
  go_ret
  exact ⟨rfl, HB2.out⟩
end Go.Proofs.YtcjbfgkmpoebgaaDoor
