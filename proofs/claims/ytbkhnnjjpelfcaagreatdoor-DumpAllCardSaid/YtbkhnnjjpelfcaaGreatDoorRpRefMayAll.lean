/- The contract of the reference's SameReply. The contracts of the reference's plain and may. The contracts of the reference's may at arrays, and of MayReply. -/
import Derived.Test.YtbkhnnjjpelfcaaGreatDoorRpWords
import Derived.Deep.RegionHeld3
import Derived.BigQuiet
import Derived.Deep.QuietTactic
import Derived.Test.YtbkhnnjjpelfcaaGreatDoorRpRefBulk
import Derived.LoopTactic
namespace Go.Proofs.YtbkhnnjjpelfcaaGreatDoor
open Go.RowKit Go.Shelf
attribute [local go_sem] Oper.semAt_some
set_option linter.unusedVariables false
set_option linter.unusedSimpArgs false

namespace Rp
mutual
/-- two replies are one. -/
def eqR : R → R → Bool
  | .mk k s n l, .mk k' s' n' l' => decide (k = k') && (decide (s = s') && (decide (n = n') && (decide (l.length = l'.length) && eqL l l')))
def eqL : List R → List R → Bool
  | [], _ => true
  | _ :: _, [] => true
  | x :: l, y :: l' => eqR x y && eqL l l'
end
theorem eqL_all : ∀ (l l' : List R), (∀ j (h : j < l.length) (h' : j < l'.length), eqR l[j] l'[j] = true) → eqL l l' = true
  | [], _, _ => by unfold eqL; rfl
  | _ :: _, [], _ => by unfold eqL; rfl
  | x :: l, y :: l', h => by
    unfold eqL
    rw [Bool.and_eq_true]
    exact ⟨h 0 (by simp) (by simp), eqL_all l l' fun j h1 h2 => h (j + 1) (by simpa using h1) (by simpa using h2)⟩
theorem eqL_no : ∀ (l l' : List R) (j : Nat) (h : j < l.length) (h' : j < l'.length), eqR l[j] l'[j] = false → eqL l l' = false
  | [], _, j, h, _, _ => by simp at h
  | _ :: _, [], j, _, h, _ => by simp at h
  | x :: l, y :: l', 0, _, _, e => by
    unfold eqL
    simp only [List.getElem_cons_zero] at e
    rw [e]; rfl
  | x :: l, y :: l', j + 1, h, h', e => by
    unfold eqL
    rw [eqL_no l l' j (by simpa using h) (by simpa using h') (by simpa using e), Bool.and_false]
mutual
theorem eqR_refl : ∀ x : R, eqR x x = true
  | .mk k s n l => by
    unfold eqR
    rw [eqL_refl l]
    simp
theorem eqL_refl : ∀ l : List R, eqL l l = true
  | [] => by unfold eqL; rfl
  | x :: l => by
    unfold eqL
    rw [eqR_refl x, eqL_refl l]; rfl
end
mutual
theorem eqR_eq : ∀ x y : R, eqR x y = true → x = y
  | .mk k s n l, .mk k' s' n' l', h => by
    unfold eqR at h
    simp only [Bool.and_eq_true, decide_eq_true_eq] at h
    rw [h.1, h.2.1, h.2.2.1, eqL_eq l l' h.2.2.2.1 h.2.2.2.2]
theorem eqL_eq : ∀ l l' : List R, l.length = l'.length → eqL l l' = true → l = l'
  | [], [], _, _ => rfl
  | [], _ :: _, h, _ => by simp at h
  | _ :: _, [], h, _ => by simp at h
  | x :: l, y :: l', h, e => by
    unfold eqL at e
    rw [Bool.and_eq_true] at e
    rw [eqR_eq x y e.1, eqL_eq l l' (by simpa using h) e.2]
end
theorem heads_lt {x : R} {j : Nat} (h : j < x.l.length) : (heads 0 x.l[j]).length < (heads 0 x).length := by
  rw [heads_eq 0 x, List.length_cons]
  have h1 := headsL_take_le 1 x.l (j + 1)
  rw [headsL_take 1 h, List.length_append] at h1
  have h2 := heads_len 0 1 x.l[j]
  rw [Nat.zero_add]
  omega
end Rp

/-- a reply wherever it lies. -/
def RepA (w : World) (r : Rp.R) (v : Value) : Prop := Rep (fun _ => True) w r v
theorem RepA.later {w w' : World} {r : Rp.R} {v : Value} (h : RepA w r v) (hb : Below w.heap.size w w') : RepA w' r v := Rep.later h hb

/-- its value's parts, its elements. -/
theorem RepA.at {w : World} {k n : Int} {s : List UInt8} {l : List Rp.R} {a : Option Addr} {m cap : Nat} (h : RepA w (.mk k s n l) (rv k s n a m cap)) :
    m = l.length ∧ Fit k s n l.length cap ∧ (l = [] ∨ ∃ b off, a = some ⟨b, off, none⟩ ∧ b < w.heap.size ∧ ∀ j (h : j < l.length), ∃ aj cj, w.cell? ⟨b, off + j * 4, none⟩ = some (.int .i64 l[j].k) ∧ w.cell? ⟨b, off + j * 4 + 1, none⟩ = some (.string ⟨l[j].s.toArray⟩) ∧ w.cell? ⟨b, off + j * 4 + 2, none⟩ = some (.int .i64 l[j].n) ∧ w.cell? ⟨b, off + j * 4 + 3, none⟩ = some (.slice aj l[j].l.length cj) ∧ RepA w l[j] (rv l[j].k l[j].s l[j].n aj l[j].l.length cj)) := by
  obtain ⟨a', cap', hv, hf, hl⟩ := Rep.parts h
  unfold rv at hv
  simp only [Rp.R.k, Rp.R.s, Rp.R.n, Rp.R.l, Value.agg.injEq, Array.mk.injEq, List.cons.injEq, and_true, true_and, Value.slice.injEq] at hv
  obtain ⟨rfl, rfl, rfl⟩ := hv
  refine ⟨rfl, hf, ?_⟩
  rcases hl with hl | ⟨b, off, rfl, _, hlt, hr⟩
  · exact .inl hl
  · refine .inr ⟨b, off, rfl, hlt, fun j hj => ?_⟩
    obtain ⟨v0, v1, v2, v3, c0, c1, c2, c3, hrep⟩ := hr.get j hj
    obtain ⟨a2, cap2, hv2, _⟩ := hrep.parts
    have hrep2 := hrep
    rw [hv2] at hrep2
    unfold rv at hv2
    simp only [Rp.R.k, Rp.R.s, Rp.R.n, Rp.R.l, Value.agg.injEq, Array.mk.injEq, List.cons.injEq, and_true] at hv2
    obtain ⟨rfl, rfl, rfl, rfl⟩ := hv2
    exact ⟨a2, cap2, c0, c1, c2, c3, hrep2⟩

theorem smS_next {w2 W1 e : World} {Pa Pb ba bb oa ob : Nat} {x3 y3 x0 x1 x2 x4 y0 y1 y2 y4 : Value} (H : (Pa < w2.heap.size ∧ Pb < w2.heap.size ∧ ba < w2.heap.size ∧ bb < w2.heap.size))
    (h : W1.cell? ⟨Pa, 3, none⟩ = some x3 ∧ W1.cell? ⟨Pb, 3, none⟩ = some y3 ∧ W1.cell? ⟨ba, oa, none⟩ = some x0 ∧ W1.cell? ⟨ba, oa + 1, none⟩ = some x1 ∧ W1.cell? ⟨ba, oa + 2, none⟩ = some x2 ∧ W1.cell? ⟨ba, oa + 3, none⟩ = some x4 ∧ W1.cell? ⟨bb, ob, none⟩ = some y0 ∧ W1.cell? ⟨bb, ob + 1, none⟩ = some y1 ∧ W1.cell? ⟨bb, ob + 2, none⟩ = some y2 ∧ W1.cell? ⟨bb, ob + 3, none⟩ = some y4 ∧ Below w2.heap.size w2 W1) (hb : Below W1.heap.size W1 e) :
    e.cell? ⟨Pa, 3, none⟩ = some x3 ∧ e.cell? ⟨Pb, 3, none⟩ = some y3 ∧ e.cell? ⟨ba, oa, none⟩ = some x0 ∧ e.cell? ⟨ba, oa + 1, none⟩ = some x1 ∧ e.cell? ⟨ba, oa + 2, none⟩ = some x2 ∧ e.cell? ⟨ba, oa + 3, none⟩ = some x4 ∧ e.cell? ⟨bb, ob, none⟩ = some y0 ∧ e.cell? ⟨bb, ob + 1, none⟩ = some y1 ∧ e.cell? ⟨bb, ob + 2, none⟩ = some y2 ∧ e.cell? ⟨bb, ob + 3, none⟩ = some y4 ∧ Below w2.heap.size w2 e := by
  obtain ⟨h1, h2, h3, h4⟩ := H
  obtain ⟨c1, c2, c3, c4, c5, c6, c7, c8, c9, c10, hB⟩ := h
  have hs := hB.size
  have e1 : ∀ b o, b < w2.heap.size → e.cell? ⟨b, o, none⟩ = W1.cell? ⟨b, o, none⟩ := fun b o h => hb.cell (p := ⟨b, o, none⟩) (Nat.lt_of_lt_of_le h hs)
  exact ⟨(e1 _ _ h1).trans c1, (e1 _ _ h2).trans c2, (e1 _ _ h3).trans c3, (e1 _ _ h3).trans c4, (e1 _ _ h3).trans c5, (e1 _ _ h3).trans c6, (e1 _ _ h4).trans c7, (e1 _ _ h4).trans c8, (e1 _ _ h4).trans c9, (e1 _ _ h4).trans c10, hB.trans (hb.mono hs)⟩

end Go.Proofs.YtbkhnnjjpelfcaaGreatDoor
namespace Go.Proofs.YtbkhnnjjpelfcaaGreatDoor
open Go.RowKit Go.Shelf
attribute [local go_sem] Oper.semAt_some
set_option linter.unusedVariables false
set_option linter.unusedSimpArgs false

namespace Rp
theorem headsL_all (lev : Nat) : ∀ l : List R, (headsL lev l).all okB = l.all fun r => (heads lev r).all okB
  | [] => by rw [headsL]; rfl
  | r :: l => by rw [headsL, List.all_append, headsL_all lev l, List.all_cons]
theorem heads_all (lev : Nat) (k : Int) (s : List UInt8) (n : Int) (l : List R) : (heads lev (.mk k s n l)).all okB = (okB (⟨k, s, n, l.length⟩, lev) && l.all fun r => (heads (lev + 1) r).all okB) := by
  rw [heads, List.all_cons, headsL_all]
theorem heads_no {lev : Nat} {k : Int} {s : List UInt8} {n : Int} {l : List R} (h : fitsB ⟨k, s, n, l.length⟩ = false) : (heads lev (.mk k s n l)).all okB = false := by
  rw [heads_all]
  unfold okB
  simp only [h, Bool.false_and]
theorem heads_yes {lev : Nat} {k : Int} {s : List UInt8} {n : Int} {l : List R} (h : fitsB ⟨k, s, n, l.length⟩ = true) (hk : k ≠ 6) (hl : l.length = 0) : (heads lev (.mk k s n l)).all okB = true := by
  rw [heads_all, List.eq_nil_of_length_eq_zero hl]
  rw [List.eq_nil_of_length_eq_zero hl] at h
  unfold okB
  simp only [h, decide_eq_false hk, Bool.false_and, Bool.not_false, Bool.and_true, List.all_nil]
end Rp

set_option maxRecDepth 100000 in
set_option maxHeartbeats 4000000 in
theorem plain_any (s : List UInt8) (w : World) (hl : s.length ≤ 281474976710656) :
    Calls Tryz.prog 107 #[.string ⟨s.toArray⟩] w fun e W => e = .returned (.bool (Rp.plainB s && decide (s.length ≤ 512))) ∧ W = w := by
  have hlI : (s.length : Int) ≤ 281474976710656 := by omega
  go_enter Tryz.func107, Tryz.ntmps107
  go_wp2
  go_loop [2, 3] (fun b i => ∃ q : Nat, q ≤ s.length ∧ b = .bool false ∧ i = .int .i64 (q : Int) ∧ Hid (∀ j, j < q → s.getD j 0 ≠ 13 ∧ s.getD j 0 ≠ 10)) (fun _ i => (s.length : Int).toNat + 1 - (intOf i).toNat)
  case atStart => exact ⟨0, Nat.zero_le _, rfl, rfl, Lib.hid fun j h => by omega⟩
  case round =>
    obtain ⟨q, hq, rfl, rfl, HQ⟩ := hrel
    have q0 : (0 : Int) ≤ (q : Int) := by omega
    have wq1 : IntKind.i64.wrap ((q : Int) + 1) = (q : Int) + 1 := IntWalk.i64_in _ (by omega)
    by_cases h1 : q < s.length
    · have h1I : (q : Int) < (s.length : Int) := by omega
      have hix := idx_at s q h1
      obtain ⟨c, hc⟩ : ∃ c, s.getD q 0 = c := ⟨_, rfl⟩
      rw [hc] at hix
      obtain ⟨y, hy⟩ : ∃ y : Int, (c.toNat : Int) = y := ⟨_, rfl⟩
      rw [hy] at hix
      have hmem : c ∈ s := by rw [← hc]; simp [List.getD, h1]
      by_cases h13 : c = 13
      · have hyv : y = 13 := by rw [← hy, h13]; rfl
        subst hyv
        have HR : Hid (Rp.plainB s = false) := Lib.hid (by unfold Rp.plainB; rw [List.all_eq_false]; exact ⟨c, hmem, by simp [h13]⟩)
        clear hc hy hmem HQ
        go_wp2
        go_ret
        exact ⟨by rw [HR.out]; rfl, rfl⟩
      · have n13 : (y == 13) = false := by rw [beq_eq_false_iff_ne]; intro h; exact h13 (UInt8.toNat_inj.1 (by have : (13 : UInt8).toNat = 13 := rfl; omega))
        have m13 : ¬ y = 13 := beq_eq_false_iff_ne.1 n13
        by_cases h10 : c = 10
        · have hyv : y = 10 := by rw [← hy, h10]; rfl
          subst hyv
          have HR : Hid (Rp.plainB s = false) := Lib.hid (by unfold Rp.plainB; rw [List.all_eq_false]; exact ⟨c, hmem, by simp [h10]⟩)
          clear hc hy hmem HQ
          go_wp2
          go_ret
          exact ⟨by rw [HR.out]; rfl, rfl⟩
        · have n10 : (y == 10) = false := by rw [beq_eq_false_iff_ne]; intro h; exact h10 (UInt8.toNat_inj.1 (by have : (10 : UInt8).toNat = 10 := rfl; omega))
          have m10 : ¬ y = 10 := beq_eq_false_iff_ne.1 n10
          have HQ2 : Hid (∀ j, j < q + 1 → s.getD j 0 ≠ 13 ∧ s.getD j 0 ≠ 10) := Lib.hid fun j hj => by
            rcases Nat.lt_or_ge j q with h | h
            · exact HQ.out j h
            · obtain rfl : j = q := by omega
              rw [hc]; exact ⟨h13, h10⟩
          clear hc hy hmem HQ
          go_wp2
          go_round
          case rel => exact ⟨q + 1, by omega, rfl, by go_num, HQ2⟩
          case measure => simp [intOf]; omega
    · obtain rfl : q = s.length := by omega
      have h1I : ¬ (s.length : Int) < (s.length : Int) := by omega
      have HR : Hid (Rp.plainB s = true) := Lib.hid (by
        unfold Rp.plainB
        rw [List.all_eq_true]
        intro x hx
        obtain ⟨j, hj, rfl⟩ := List.getElem_of_mem hx
        have := HQ.out j hj
        rw [show s.getD j 0 = s[j] by simp [List.getD, hj]] at this
        simp [this.1, this.2])
      clear HQ
      by_cases h5 : s.length ≤ 512
      · have h5I : (s.length : Int) ≤ 512 := by omega
        go_wp2
        go_ret
        exact ⟨by simp [HR.out, h5], rfl⟩
      · have h5I : ¬ (s.length : Int) ≤ 512 := by omega
        go_wp2
        go_ret
        exact ⟨by simp [HR.out, h5], rfl⟩

set_option maxRecDepth 100000 in
set_option maxHeartbeats 8000000 in
theorem may_flat (k : Int) (s : List UInt8) (n : Int) (l : List Rp.R) (a : Option Addr) (c : Nat) (dp : Int) (lev : Nat) (w : World) (hf : Fit k s n l.length c) (hk6 : k ≠ 6) :
    Calls Tryz.prog 84 #[.agg #[.int .i64 k, .string ⟨s.toArray⟩, .int .i64 n, .slice a l.length c], .int .i64 dp] w fun e W => e = .returned (.bool ((Rp.heads lev (.mk k s n l)).all Rp.okB)) ∧ Below w.heap.size w W := by
  obtain ⟨f1, f2, f3, f4, f5, f6, f7, f8⟩ := hf
  have hbel : ∀ o, Below w.heap.size w (w.alloc o) := fun o => (Below.refl _ w).alloc (Nat.le_refl _) o
  have HBL := Lib.hid hbel
  clear hbel
  by_cases hk1 : k = 1
  · by_cases hp : (Rp.plainB s && decide (s.length ≤ 512)) = true
    · have hpp := hp
      simp only [Bool.and_eq_true, decide_eq_true_eq] at hpp
      obtain ⟨hp1, hp2⟩ := hpp
      by_cases hn : n = 0
      · by_cases hm : l.length = 0
        · have hmI : (l.length : Int) = 0 := by omega
          have hmE : ((l.length : Int) == 0) = true := by simp [hm]
          have HR := Lib.hid (show (Rp.heads lev (.mk k s n l)).all Rp.okB = true from Rp.heads_yes (by unfold Rp.fitsB; simp [hk1, hp1, hp2, hn, hm]) hk6 hm)
          have m0 : (0 : Int) ≤ (l.length : Int) := by omega
          generalize hln : l.length = m at *
          clear hln
          go_enter Tryz.func84, Tryz.ntmps84
          go_wp2_with fail
          refine (plain_any s _ (by omega)).mono ?_
          rintro e w2 ⟨rfl, rfl⟩
          rw [hp]
          go_wp2
          go_ret
          exact ⟨by first | (rw [HR.out]; done) | (rw [HR.out]; rfl) | (simp [HR.out]; done) | (have h := HR.out; simp only [hk1] at h; rw [h]; done) | (have h := HR.out; simp only [hk1] at h; rw [h]; rfl), HBL.out _⟩
        · have hmI : ¬ (l.length : Int) = 0 := by omega
          have hmE : ((l.length : Int) == 0) = false := beq_eq_false_iff_ne.2 hmI
          have HR := Lib.hid (show (Rp.heads lev (.mk k s n l)).all Rp.okB = false from Rp.heads_no (by unfold Rp.fitsB; simp [hk1, hp1, hp2, hn, hm]))
          have m0 : (0 : Int) ≤ (l.length : Int) := by omega
          generalize hln : l.length = m at *
          clear hln
          go_enter Tryz.func84, Tryz.ntmps84
          go_wp2_with fail
          refine (plain_any s _ (by omega)).mono ?_
          rintro e w2 ⟨rfl, rfl⟩
          rw [hp]
          go_wp2
          go_ret
          exact ⟨by first | (rw [HR.out]; done) | (rw [HR.out]; rfl) | (simp [HR.out]; done) | (have h := HR.out; simp only [hk1] at h; rw [h]; done) | (have h := HR.out; simp only [hk1] at h; rw [h]; rfl), HBL.out _⟩
      · have hnE : (n == 0) = false := beq_eq_false_iff_ne.2 hn
        have HR := Lib.hid (show (Rp.heads lev (.mk k s n l)).all Rp.okB = false from Rp.heads_no (by unfold Rp.fitsB; simp [hk1, hp1, hp2, hn]))
        have m0 : (0 : Int) ≤ (l.length : Int) := by omega
        generalize hln : l.length = m at *
        clear hln
        go_enter Tryz.func84, Tryz.ntmps84
        go_wp2_with fail
        refine (plain_any s _ (by omega)).mono ?_
        rintro e w2 ⟨rfl, rfl⟩
        rw [hp]
        go_wp2
        go_ret
        exact ⟨by first | (rw [HR.out]; done) | (rw [HR.out]; rfl) | (simp [HR.out]; done) | (have h := HR.out; simp only [hk1] at h; rw [h]; done) | (have h := HR.out; simp only [hk1] at h; rw [h]; rfl), HBL.out _⟩
    · have hp0 := hp
      rw [Bool.not_eq_true] at hp
      have hpp : ¬ (s.length ≤ 512 ∧ Rp.plainB s = true) := fun h => hp0 (by simp [h.1, h.2])
      have HR := Lib.hid (show (Rp.heads lev (.mk k s n l)).all Rp.okB = false from Rp.heads_no (by unfold Rp.fitsB; simp [hk1]; exact fun h1 h2 => absurd ⟨h1, h2⟩ hpp))
      have m0 : (0 : Int) ≤ (l.length : Int) := by omega
      generalize hln : l.length = m at *
      clear hln
      go_enter Tryz.func84, Tryz.ntmps84
      go_wp2_with fail
      refine (plain_any s _ (by omega)).mono ?_
      rintro e w2 ⟨rfl, rfl⟩
      rw [hp]
      go_wp2
      go_ret
      exact ⟨by first | (rw [HR.out]; done) | (rw [HR.out]; rfl) | (simp [HR.out]; done) | (have h := HR.out; simp only [hk1] at h; rw [h]; done) | (have h := HR.out; simp only [hk1] at h; rw [h]; rfl), HBL.out _⟩
  by_cases hk2 : k = 2
  · by_cases hp : (Rp.plainB s && decide (s.length ≤ 512)) = true
    · have hpp := hp
      simp only [Bool.and_eq_true, decide_eq_true_eq] at hpp
      obtain ⟨hp1, hp2⟩ := hpp
      by_cases hn : n = 0
      · by_cases hm : l.length = 0
        · have hmI : (l.length : Int) = 0 := by omega
          have hmE : ((l.length : Int) == 0) = true := by simp [hm]
          have HR := Lib.hid (show (Rp.heads lev (.mk k s n l)).all Rp.okB = true from Rp.heads_yes (by unfold Rp.fitsB; simp [hk2, hp1, hp2, hn, hm]) hk6 hm)
          have m0 : (0 : Int) ≤ (l.length : Int) := by omega
          generalize hln : l.length = m at *
          clear hln
          go_enter Tryz.func84, Tryz.ntmps84
          go_wp2_with fail
          refine (plain_any s _ (by omega)).mono ?_
          rintro e w2 ⟨rfl, rfl⟩
          rw [hp]
          go_wp2
          go_ret
          exact ⟨by first | (rw [HR.out]; done) | (rw [HR.out]; rfl) | (simp [HR.out]; done) | (have h := HR.out; simp only [hk2] at h; rw [h]; done) | (have h := HR.out; simp only [hk2] at h; rw [h]; rfl), HBL.out _⟩
        · have hmI : ¬ (l.length : Int) = 0 := by omega
          have hmE : ((l.length : Int) == 0) = false := beq_eq_false_iff_ne.2 hmI
          have HR := Lib.hid (show (Rp.heads lev (.mk k s n l)).all Rp.okB = false from Rp.heads_no (by unfold Rp.fitsB; simp [hk2, hp1, hp2, hn, hm]))
          have m0 : (0 : Int) ≤ (l.length : Int) := by omega
          generalize hln : l.length = m at *
          clear hln
          go_enter Tryz.func84, Tryz.ntmps84
          go_wp2_with fail
          refine (plain_any s _ (by omega)).mono ?_
          rintro e w2 ⟨rfl, rfl⟩
          rw [hp]
          go_wp2
          go_ret
          exact ⟨by first | (rw [HR.out]; done) | (rw [HR.out]; rfl) | (simp [HR.out]; done) | (have h := HR.out; simp only [hk2] at h; rw [h]; done) | (have h := HR.out; simp only [hk2] at h; rw [h]; rfl), HBL.out _⟩
      · have hnE : (n == 0) = false := beq_eq_false_iff_ne.2 hn
        have HR := Lib.hid (show (Rp.heads lev (.mk k s n l)).all Rp.okB = false from Rp.heads_no (by unfold Rp.fitsB; simp [hk2, hp1, hp2, hn]))
        have m0 : (0 : Int) ≤ (l.length : Int) := by omega
        generalize hln : l.length = m at *
        clear hln
        go_enter Tryz.func84, Tryz.ntmps84
        go_wp2_with fail
        refine (plain_any s _ (by omega)).mono ?_
        rintro e w2 ⟨rfl, rfl⟩
        rw [hp]
        go_wp2
        go_ret
        exact ⟨by first | (rw [HR.out]; done) | (rw [HR.out]; rfl) | (simp [HR.out]; done) | (have h := HR.out; simp only [hk2] at h; rw [h]; done) | (have h := HR.out; simp only [hk2] at h; rw [h]; rfl), HBL.out _⟩
    · have hp0 := hp
      rw [Bool.not_eq_true] at hp
      have hpp : ¬ (s.length ≤ 512 ∧ Rp.plainB s = true) := fun h => hp0 (by simp [h.1, h.2])
      have HR := Lib.hid (show (Rp.heads lev (.mk k s n l)).all Rp.okB = false from Rp.heads_no (by unfold Rp.fitsB; simp [hk2]; exact fun h1 h2 => absurd ⟨h1, h2⟩ hpp))
      have m0 : (0 : Int) ≤ (l.length : Int) := by omega
      generalize hln : l.length = m at *
      clear hln
      go_enter Tryz.func84, Tryz.ntmps84
      go_wp2_with fail
      refine (plain_any s _ (by omega)).mono ?_
      rintro e w2 ⟨rfl, rfl⟩
      rw [hp]
      go_wp2
      go_ret
      exact ⟨by first | (rw [HR.out]; done) | (rw [HR.out]; rfl) | (simp [HR.out]; done) | (have h := HR.out; simp only [hk2] at h; rw [h]; done) | (have h := HR.out; simp only [hk2] at h; rw [h]; rfl), HBL.out _⟩
  by_cases hk3 : k = 3
  · by_cases hs : s = []
    · by_cases hm : l.length = 0
      · have hmI : (l.length : Int) = 0 := by omega
        have hmE : ((l.length : Int) == 0) = true := by simp [hm]
        have HR := Lib.hid (show (Rp.heads lev (.mk k s n l)).all Rp.okB = true from Rp.heads_yes (by unfold Rp.fitsB; simp [hk3, hs, hm]) hk6 hm)
        have m0 : (0 : Int) ≤ (l.length : Int) := by omega
        generalize hln : l.length = m at *
        clear hln
        go_enter Tryz.func84, Tryz.ntmps84
        go_wp2
        go_ret
        exact ⟨by first | (rw [HR.out]; done) | (rw [HR.out]; rfl) | (simp [HR.out]; done) | (have h := HR.out; simp only [hk3] at h; rw [h]; done) | (have h := HR.out; simp only [hk3] at h; rw [h]; rfl), HBL.out _⟩
      · have hmI : ¬ (l.length : Int) = 0 := by omega
        have hmE : ((l.length : Int) == 0) = false := beq_eq_false_iff_ne.2 hmI
        have HR := Lib.hid (show (Rp.heads lev (.mk k s n l)).all Rp.okB = false from Rp.heads_no (by unfold Rp.fitsB; simp [hk3, hs, hm]))
        have m0 : (0 : Int) ≤ (l.length : Int) := by omega
        generalize hln : l.length = m at *
        clear hln
        go_enter Tryz.func84, Tryz.ntmps84
        go_wp2
        go_ret
        exact ⟨by first | (rw [HR.out]; done) | (rw [HR.out]; rfl) | (simp [HR.out]; done) | (have h := HR.out; simp only [hk3] at h; rw [h]; done) | (have h := HR.out; simp only [hk3] at h; rw [h]; rfl), HBL.out _⟩
    · have hsE : List.isEmpty s = false := by cases s with
        | nil => exact (hs rfl).elim
        | cons _ _ => rfl
      have HR := Lib.hid (show (Rp.heads lev (.mk k s n l)).all Rp.okB = false from Rp.heads_no (by unfold Rp.fitsB; simp [hk3, hs]))
      have m0 : (0 : Int) ≤ (l.length : Int) := by omega
      generalize hln : l.length = m at *
      clear hln
      go_enter Tryz.func84, Tryz.ntmps84
      go_wp2
      go_ret
      exact ⟨by first | (rw [HR.out]; done) | (rw [HR.out]; rfl) | (simp [HR.out]; done) | (have h := HR.out; simp only [hk3] at h; rw [h]; done) | (have h := HR.out; simp only [hk3] at h; rw [h]; rfl), HBL.out _⟩
  by_cases hk4 : k = 4
  · by_cases hb : s.length ≤ 1048576
    · have hbI : (s.length : Int) ≤ 1048576 := by omega
      by_cases hn : n = 0
      · by_cases hm : l.length = 0
        · have hmI : (l.length : Int) = 0 := by omega
          have hmE : ((l.length : Int) == 0) = true := by simp [hm]
          have HR := Lib.hid (show (Rp.heads lev (.mk k s n l)).all Rp.okB = true from Rp.heads_yes (by unfold Rp.fitsB; simp [hk4, hb, hn, hm]) hk6 hm)
          have m0 : (0 : Int) ≤ (l.length : Int) := by omega
          generalize hln : l.length = m at *
          clear hln
          go_enter Tryz.func84, Tryz.ntmps84
          go_wp2
          go_ret
          exact ⟨by first | (rw [HR.out]; done) | (rw [HR.out]; rfl) | (simp [HR.out]; done) | (have h := HR.out; simp only [hk4] at h; rw [h]; done) | (have h := HR.out; simp only [hk4] at h; rw [h]; rfl), HBL.out _⟩
        · have hmI : ¬ (l.length : Int) = 0 := by omega
          have hmE : ((l.length : Int) == 0) = false := beq_eq_false_iff_ne.2 hmI
          have HR := Lib.hid (show (Rp.heads lev (.mk k s n l)).all Rp.okB = false from Rp.heads_no (by unfold Rp.fitsB; simp [hk4, hb, hn, hm]))
          have m0 : (0 : Int) ≤ (l.length : Int) := by omega
          generalize hln : l.length = m at *
          clear hln
          go_enter Tryz.func84, Tryz.ntmps84
          go_wp2
          go_ret
          exact ⟨by first | (rw [HR.out]; done) | (rw [HR.out]; rfl) | (simp [HR.out]; done) | (have h := HR.out; simp only [hk4] at h; rw [h]; done) | (have h := HR.out; simp only [hk4] at h; rw [h]; rfl), HBL.out _⟩
      · have hnE : (n == 0) = false := beq_eq_false_iff_ne.2 hn
        have HR := Lib.hid (show (Rp.heads lev (.mk k s n l)).all Rp.okB = false from Rp.heads_no (by unfold Rp.fitsB; simp [hk4, hb, hn]))
        have m0 : (0 : Int) ≤ (l.length : Int) := by omega
        generalize hln : l.length = m at *
        clear hln
        go_enter Tryz.func84, Tryz.ntmps84
        go_wp2
        go_ret
        exact ⟨by first | (rw [HR.out]; done) | (rw [HR.out]; rfl) | (simp [HR.out]; done) | (have h := HR.out; simp only [hk4] at h; rw [h]; done) | (have h := HR.out; simp only [hk4] at h; rw [h]; rfl), HBL.out _⟩
    · have hbI : ¬ (s.length : Int) ≤ 1048576 := by omega
      have HR := Lib.hid (show (Rp.heads lev (.mk k s n l)).all Rp.okB = false from Rp.heads_no (by unfold Rp.fitsB; simp [hk4, hb]))
      have m0 : (0 : Int) ≤ (l.length : Int) := by omega
      generalize hln : l.length = m at *
      clear hln
      go_enter Tryz.func84, Tryz.ntmps84
      go_wp2
      go_ret
      exact ⟨by first | (rw [HR.out]; done) | (rw [HR.out]; rfl) | (simp [HR.out]; done) | (have h := HR.out; simp only [hk4] at h; rw [h]; done) | (have h := HR.out; simp only [hk4] at h; rw [h]; rfl), HBL.out _⟩
  by_cases hk5 : k = 5
  · by_cases hs : s = []
    · by_cases hn : n = 0
      · by_cases hm : l.length = 0
        · have hmI : (l.length : Int) = 0 := by omega
          have hmE : ((l.length : Int) == 0) = true := by simp [hm]
          have HR := Lib.hid (show (Rp.heads lev (.mk k s n l)).all Rp.okB = true from Rp.heads_yes (by unfold Rp.fitsB; simp [hk5, hs, hn, hm]) hk6 hm)
          have m0 : (0 : Int) ≤ (l.length : Int) := by omega
          generalize hln : l.length = m at *
          clear hln
          go_enter Tryz.func84, Tryz.ntmps84
          go_wp2
          go_ret
          exact ⟨by first | (rw [HR.out]; done) | (rw [HR.out]; rfl) | (simp [HR.out]; done) | (have h := HR.out; simp only [hk5] at h; rw [h]; done) | (have h := HR.out; simp only [hk5] at h; rw [h]; rfl), HBL.out _⟩
        · have hmI : ¬ (l.length : Int) = 0 := by omega
          have hmE : ((l.length : Int) == 0) = false := beq_eq_false_iff_ne.2 hmI
          have HR := Lib.hid (show (Rp.heads lev (.mk k s n l)).all Rp.okB = false from Rp.heads_no (by unfold Rp.fitsB; simp [hk5, hs, hn, hm]))
          have m0 : (0 : Int) ≤ (l.length : Int) := by omega
          generalize hln : l.length = m at *
          clear hln
          go_enter Tryz.func84, Tryz.ntmps84
          go_wp2
          go_ret
          exact ⟨by first | (rw [HR.out]; done) | (rw [HR.out]; rfl) | (simp [HR.out]; done) | (have h := HR.out; simp only [hk5] at h; rw [h]; done) | (have h := HR.out; simp only [hk5] at h; rw [h]; rfl), HBL.out _⟩
      · have hnE : (n == 0) = false := beq_eq_false_iff_ne.2 hn
        have HR := Lib.hid (show (Rp.heads lev (.mk k s n l)).all Rp.okB = false from Rp.heads_no (by unfold Rp.fitsB; simp [hk5, hs, hn]))
        have m0 : (0 : Int) ≤ (l.length : Int) := by omega
        generalize hln : l.length = m at *
        clear hln
        go_enter Tryz.func84, Tryz.ntmps84
        go_wp2
        go_ret
        exact ⟨by first | (rw [HR.out]; done) | (rw [HR.out]; rfl) | (simp [HR.out]; done) | (have h := HR.out; simp only [hk5] at h; rw [h]; done) | (have h := HR.out; simp only [hk5] at h; rw [h]; rfl), HBL.out _⟩
    · have hsE : List.isEmpty s = false := by cases s with
        | nil => exact (hs rfl).elim
        | cons _ _ => rfl
      have HR := Lib.hid (show (Rp.heads lev (.mk k s n l)).all Rp.okB = false from Rp.heads_no (by unfold Rp.fitsB; simp [hk5, hs]))
      have m0 : (0 : Int) ≤ (l.length : Int) := by omega
      generalize hln : l.length = m at *
      clear hln
      go_enter Tryz.func84, Tryz.ntmps84
      go_wp2
      go_ret
      exact ⟨by first | (rw [HR.out]; done) | (rw [HR.out]; rfl) | (simp [HR.out]; done) | (have h := HR.out; simp only [hk5] at h; rw [h]; done) | (have h := HR.out; simp only [hk5] at h; rw [h]; rfl), HBL.out _⟩
  have e1 : (k == 1) = false := beq_eq_false_iff_ne.2 hk1
  have e2 : (k == 2) = false := beq_eq_false_iff_ne.2 hk2
  have e3 : (k == 3) = false := beq_eq_false_iff_ne.2 hk3
  have e4 : (k == 4) = false := beq_eq_false_iff_ne.2 hk4
  have e5 : (k == 5) = false := beq_eq_false_iff_ne.2 hk5
  have e6 : (k == 6) = false := beq_eq_false_iff_ne.2 hk6
  have HR := Lib.hid (show (Rp.heads lev (.mk k s n l)).all Rp.okB = false from Rp.heads_no (by unfold Rp.fitsB; simp [hk1, hk2, hk3, hk4, hk5, hk6]))
  have m0 : (0 : Int) ≤ (l.length : Int) := by omega
  generalize hln : l.length = m at *
  clear hln
  go_enter Tryz.func84, Tryz.ntmps84
  go_wp2
  go_ret
  exact ⟨by first | (rw [HR.out]; done) | (rw [HR.out]; rfl) | (simp [HR.out]; done) | (have h := HR.out; simp only [hk1] at h; rw [h]; done) | (have h := HR.out; simp only [hk1] at h; rw [h]; rfl), HBL.out _⟩
end Go.Proofs.YtbkhnnjjpelfcaaGreatDoor
namespace Go.Proofs.YtbkhnnjjpelfcaaGreatDoor
open Go.RowKit Go.Shelf
attribute [local go_sem] Oper.semAt_some
set_option linter.unusedVariables false
set_option linter.unusedSimpArgs false

set_option maxRecDepth 100000 in
set_option maxHeartbeats 8000000 in
theorem may_ref : ∀ (N : Nat) (x : Rp.R) (lev : Nat) (a : Option Addr) (c : Nat) (w : World), (Rp.heads 0 x).length ≤ N → lev ≤ 8 → RepA w x (rv x.k x.s x.n a x.l.length c) →
    Calls Tryz.prog 84 #[rv x.k x.s x.n a x.l.length c, .int .i64 (8 - (lev : Int))] w fun e W => e = .returned (.bool ((Rp.heads lev x).all Rp.okB)) ∧ Below w.heap.size w W := by
  intro N
  induction N with
  | zero =>
    intro x lev a c w hN
    have := Rp.heads_ne 0 x
    omega
  | succ N ih =>
    intro x lev a c w hN hlev hx
    have hrec : ∀ j (h : j < x.l.length), (Rp.heads 0 x.l[j]).length ≤ N := fun j h => by have := Rp.heads_lt h; omega
    obtain ⟨k, s, n, l⟩ := x
    simp only [Rp.R.k, Rp.R.s, Rp.R.n, Rp.R.l] at hx hrec ⊢
    obtain ⟨-, hf, hxl⟩ := hx.at
    unfold rv
    by_cases hk6 : k = 6
    rotate_left
    · exact may_flat k s n l a c _ lev w hf hk6
    obtain ⟨f1, f2, f3, f4, f5, f6, f7, f8⟩ := hf
    have hbel : ∀ o, Below w.heap.size w (w.alloc o) := fun o => (Below.refl _ w).alloc (Nat.le_refl _) o
    have HBL := Lib.hid hbel
    have HX := Lib.hid hxl
    have HR0 := Lib.hid hrec
    have IH := Lib.hid ih
    clear hx hN hbel hxl hrec ih
    have l0 : (0 : Int) ≤ (lev : Int) := by omega
    have l8 : (lev : Int) ≤ 8 := by omega
    by_cases hs : s = []
    rotate_left
    · have hsE : List.isEmpty s = false := by cases s with
        | nil => exact (hs rfl).elim
        | cons _ _ => rfl
      have HR := Lib.hid (show (Rp.heads lev (.mk k s n l)).all Rp.okB = false from Rp.heads_no (by unfold Rp.fitsB; simp [hk6, hs]))
      have m0 : (0 : Int) ≤ (l.length : Int) := by omega
      clear HX HR0 IH
      generalize hln : l.length = m at *
      clear hln
      go_enter Tryz.func84, Tryz.ntmps84
      go_wp2
      go_ret
      exact ⟨by first | (rw [HR.out]; done) | (rw [HR.out]; rfl) | (simp [HR.out]; done) | (have h := HR.out; simp only [hk6] at h; rw [h]; done) | (have h := HR.out; simp only [hk6] at h; rw [h]; rfl), HBL.out _⟩
    by_cases hn : n = 0
    rotate_left
    · have hnE : (n == 0) = false := beq_eq_false_iff_ne.2 hn
      have HR := Lib.hid (show (Rp.heads lev (.mk k s n l)).all Rp.okB = false from Rp.heads_no (by unfold Rp.fitsB; simp [hk6, hs, hn]))
      have m0 : (0 : Int) ≤ (l.length : Int) := by omega
      clear HX HR0 IH
      generalize hln : l.length = m at *
      clear hln
      go_enter Tryz.func84, Tryz.ntmps84
      go_wp2
      go_ret
      exact ⟨by first | (rw [HR.out]; done) | (rw [HR.out]; rfl) | (simp [HR.out]; done) | (have h := HR.out; simp only [hk6] at h; rw [h]; done) | (have h := HR.out; simp only [hk6] at h; rw [h]; rfl), HBL.out _⟩
    by_cases hm : l.length ≤ 65536
    rotate_left
    · have hmg : (65536 : Int) < (l.length : Int) := by omega
      have HR := Lib.hid (show (Rp.heads lev (.mk k s n l)).all Rp.okB = false from Rp.heads_no (by unfold Rp.fitsB; simp [hk6, hs, hn, hm]))
      have m0 : (0 : Int) ≤ (l.length : Int) := by omega
      clear HX HR0 IH
      generalize hln : l.length = m at *
      clear hln
      go_enter Tryz.func84, Tryz.ntmps84
      go_wp2
      go_ret
      exact ⟨by first | (rw [HR.out]; done) | (rw [HR.out]; rfl) | (simp [HR.out]; done) | (have h := HR.out; simp only [hk6] at h; rw [h]; done) | (have h := HR.out; simp only [hk6] at h; rw [h]; rfl), HBL.out _⟩
    have hmI : (l.length : Int) ≤ 65536 := by omega
    have hmg : ¬ (65536 : Int) < (l.length : Int) := by omega
    by_cases h8 : lev = 8
    · have HR := Lib.hid (show (Rp.heads lev (.mk k s n l)).all Rp.okB = false by
        rw [Rp.heads_all]
        unfold Rp.okB
        simp [hk6, h8])
      have hlt1 : 8 - (lev : Int) < 1 := by omega
      have m0 : (0 : Int) ≤ (l.length : Int) := by omega
      clear HX HR0 IH
      generalize hln : l.length = m at *
      clear hln
      obtain ⟨D, hD⟩ : ∃ D : Int, 8 - (lev : Int) = D := ⟨_, rfl⟩
      rw [hD] at hlt1 ⊢
      clear hD
      go_enter Tryz.func84, Tryz.ntmps84
      go_wp2
      go_ret
      exact ⟨by have h := HR.out; simp only [hk6, hs, hn, h8] at h; first | (rw [h]; done) | (rw [h]; rfl), HBL.out _⟩
    · have hfit : Rp.okB (⟨k, s, n, l.length⟩, lev) = true := by
        unfold Rp.okB Rp.fitsB
        simp [hk6, hs, hn, hm]
        omega
      have HR := Lib.hid (show (Rp.heads lev (.mk k s n l)).all Rp.okB = l.all fun r => (Rp.heads (lev + 1) r).all Rp.okB by rw [Rp.heads_all, hfit, Bool.true_and])
      have hlt1 : ¬ 8 - (lev : Int) < 1 := by omega
      obtain ⟨D, hD⟩ : ∃ D : Int, 8 - (lev : Int) = D := ⟨_, rfl⟩
      have hD1 : IntKind.i64.wrap (D - 1) = D - 1 := IntWalk.i64_in _ (by omega)
      have hDD : D - 1 = 8 - ((lev + 1 : Nat) : Int) := by omega
      have HDD := Lib.hid hDD
      have hl9 : lev + 1 ≤ 8 := by omega
      rw [hD] at hlt1 ⊢
      rw [HR.out]
      subst hk6
      subst hs
      subst hn
      clear hD hDD hfit
      obtain ⟨w1, hw1⟩ : ∃ w1, w.alloc (.cells #[.int .i64 6, .string ⟨([] : List UInt8).toArray⟩, .int .i64 0, .slice a l.length c] 45) = w1 := ⟨_, rfl⟩
      have hp1 := World.alloc_heap_new w (.cells #[.int .i64 6, .string ⟨([] : List UInt8).toArray⟩, .int .i64 0, .slice a l.length c] 45)
      have hb1 := HBL.out (.cells #[.int .i64 6, .string ⟨([] : List UInt8).toArray⟩, .int .i64 0, .slice a l.length c] 45)
      rw [hw1] at hp1 hb1
      have HW1 := Lib.hid hw1
      have HP1 := Lib.hid hp1
      have HB1 := Lib.hid hb1
      have hz1 : w.heap.size < w1.heap.size := (Array.getElem?_eq_some_iff.1 hp1).1
      obtain ⟨p0, p1, p2, p3⟩ := cells_four hp1
      clear hw1 hp1 hb1
      go_enter Tryz.func84, Tryz.ntmps84
      go_upto_region 1 with (fail)
      rw [show w.alloc (.cells #[.int .i64 6, .string ⟨([] : List UInt8).toArray⟩, .int .i64 0, .slice a l.length c] 45) = w1 from HW1.out]
      clear HW1
      go_upto_region 14 with (fail)
      go_wp2_with fail
      clear p0 p1 p2 p3
      go_loopw [4, 5] (fun b i wr => ∃ q : Nat, q ≤ l.length ∧ b = .bool false ∧ i = .int .i64 (q : Int) ∧ Hid (∀ j (h : j < l.length), j < q → (Rp.heads (lev + 1) l[j]).all Rp.okB = true) ∧ Hid (Below w1.heap.size w1 wr)) (fun _ i _ => l.length - (intOf i).toNat)
      case atStart => exact ⟨0, Nat.zero_le _, rfl, rfl, Lib.hid fun j _ h => by omega, Lib.hid (Below.refl _ _)⟩
      case round =>
        obtain ⟨q, hq, rfl, rfl, HQ, HB⟩ := hrel
        have hpr := (HB.out.block _ hz1).trans HP1.out
        obtain ⟨p0, p1, p2, p3⟩ := cells_four hpr
        have hbr : Below w.heap.size w wr := HB1.out.trans (HB.out.mono HB1.out.size)
        have HBR := Lib.hid hbr
        have q0 : (0 : Int) ≤ (q : Int) := by omega
        have wq1 : IntKind.i64.wrap ((q : Int) + 1) = (q : Int) + 1 := IntWalk.i64_in _ (by omega)
        clear hpr
        by_cases hlt : q < l.length
        · have hltI : (q : Int) < (l.length : Int) := by omega
          obtain ⟨bb, off, rfl, hbb, hce⟩ := HX.out.resolve_left (by intro h; rw [h] at hlt; simp at hlt)
          obtain ⟨aj, cj, c0, c1, c2, c3, hrep⟩ := hce q hlt
          replace c0 := (hbr.cell (p := ⟨bb, off + q * 4, none⟩) hbb).trans c0
          replace c1 := (hbr.cell (p := ⟨bb, off + q * 4 + 1, none⟩) hbb).trans c1
          replace c2 := (hbr.cell (p := ⟨bb, off + q * 4 + 2, none⟩) hbb).trans c2
          replace c3 := (hbr.cell (p := ⟨bb, off + q * 4 + 3, none⟩) hbb).trans c3
          have hcl := IH.out l[q] (lev + 1) aj cj wr (HR0.out q hlt) hl9 (RepA.later hrep hbr)
          rw [← HDD.out] at hcl
          unfold rv at hcl
          obtain ⟨r, hr⟩ : ∃ r, l[q] = r := ⟨_, rfl⟩
          rw [hr] at c0 c1 c2 c3 hcl
          have HL := Lib.hid hr
          have HC := Lib.hid hcl
          clear hrep hcl hce hbb hbr hr
          obtain ⟨ok, hok⟩ : ∃ ok, (Rp.heads (lev + 1) r).all Rp.okB = ok := ⟨_, rfl⟩
          rw [hok] at HC
          have HOK := Lib.hid hok
          clear hok
          go_wp2_with fail
          refine HC.out.mono ?_
          rintro e w2 ⟨rfl, hb2⟩
          have HB2 := Lib.hid (HB.out.trans (hb2.mono HB.out.size))
          have HBR2 := Lib.hid (HBR.out.trans (hb2.mono HBR.out.size))
          clear hb2 c0 c1 c2 c3 p0 p1 p2 p3
          cases ok with
          | false =>
            have HF : Hid ((l.all fun r => (Rp.heads (lev + 1) r).all Rp.okB) = false) := Lib.hid (by
              rw [List.all_eq_false]
              exact ⟨l[q], List.getElem_mem hlt, by rw [HL.out, HOK.out]; decide⟩)
            go_wp2_with fail
            go_ret
            exact ⟨by rw [HF.out]; rfl, HBR2.out⟩
          | true =>
            have HQ2 : Hid (∀ j (h : j < l.length), j < q + 1 → (Rp.heads (lev + 1) l[j]).all Rp.okB = true) := Lib.hid fun j h hj => by
              rcases Nat.lt_or_ge j q with h' | h'
              · exact HQ.out j h h'
              · obtain rfl : j = q := by omega
                rw [HL.out, HOK.out]
            go_wp2_with fail
            go_roundw
            case rel => exact ⟨q + 1, by omega, rfl, by go_num, HQ2, HB2⟩
            case measure => simp [intOf]; omega
        · obtain rfl : q = l.length := by omega
          have hnl : ¬ (l.length : Int) < (l.length : Int) := by omega
          have HT : Hid ((l.all fun r => (Rp.heads (lev + 1) r).all Rp.okB) = true) := Lib.hid (by
            rw [List.all_eq_true]
            intro r hr
            obtain ⟨j, hj, rfl⟩ := List.getElem_of_mem hr
            exact HQ.out j hj hj)
          clear HQ HX
          go_wp2
          go_ret
          exact ⟨by rw [HT.out]; rfl, HBR.out⟩

set_option maxRecDepth 100000 in
set_option maxHeartbeats 4000000 in
theorem mayReply_any (x : Rp.R) (a : Option Addr) (c : Nat) (w : World) (hx : RepA w x (rv x.k x.s x.n a x.l.length c)) :
    Calls Tryz.prog 66 #[rv x.k x.s x.n a x.l.length c] w fun e W => e = .returned (.bool (Rp.mayB x)) ∧ Below w.heap.size w W := by
  unfold rv at hx ⊢
  obtain ⟨w1, hw1⟩ : ∃ w1, w.alloc (.cells #[.int .i64 x.k, .string ⟨x.s.toArray⟩, .int .i64 x.n, .slice a x.l.length c] 45) = w1 := ⟨_, rfl⟩
  have hp1 := World.alloc_heap_new w (.cells #[.int .i64 x.k, .string ⟨x.s.toArray⟩, .int .i64 x.n, .slice a x.l.length c] 45)
  have hb1 : Below w.heap.size w w1 := by rw [← hw1]; exact (Below.refl _ w).alloc (Nat.le_refl _) _
  rw [hw1] at hp1
  have hcl := may_ref _ x 0 a c w1 (Nat.le_refl _) (by decide) (RepA.later hx hb1)
  unfold rv at hcl
  rw [show (8 - ((0 : Nat) : Int)) = 8 from rfl] at hcl
  obtain ⟨p0, p1, p2, p3⟩ := cells_four hp1
  have HC := Lib.hid hcl
  have HB := Lib.hid hb1
  have HW := Lib.hid hw1
  clear hcl hb1 hw1 hp1 hx
  go_enter Tryz.func66, Tryz.ntmps66
  go_upto_region 1 with (fail)
  rw [show w.alloc (.cells #[.int .i64 x.k, .string ⟨x.s.toArray⟩, .int .i64 x.n, .slice a x.l.length c] 45) = w1 from HW.out]
  go_wp2_with fail
  refine HC.out.mono ?_
  rintro e w2 ⟨rfl, hb2⟩
  have HB2 := Lib.hid (HB.out.trans (hb2.mono HB.out.size))
  clear hb2
  go_wp2_with fail
  go_ret
  exact ⟨rfl, HB2.out⟩
end Go.Proofs.YtbkhnnjjpelfcaaGreatDoor
