/- The contract of the reference's SameReply. -/
import Derived.Test.YtcjbfgkmpoebgaaDoorRpAwake
import Derived.Deep.RegionHeld3
import Derived.BigQuiet
import Derived.Deep.QuietTactic
namespace Go.Proofs.YtcjbfgkmpoebgaaDoor
open Go.RowKit Go.Shelf
attribute [local go_sem] Oper.semAt_some
set_option linter.unusedVariables false
set_option linter.unusedSimpArgs false

namespace Rp
mutual
/-- two replies are one. -/
def eqR : R → R → Bool
  | .mk k s n l, .mk k' s' n' l' => decide (k = k') && (decide (s = s') && (decide (n = n') && (decide (l.length = l'.length) && eqL l l')))
def eqL : List R → List R → Bool
  | [], _ => true
  | _ :: _, [] => true
  | x :: l, y :: l' => eqR x y && eqL l l'
end
theorem eqL_all : ∀ (l l' : List R), (∀ j (h : j < l.length) (h' : j < l'.length), eqR l[j] l'[j] = true) → eqL l l' = true
  | [], _, _ => by unfold eqL; rfl
  | _ :: _, [], _ => by unfold eqL; rfl
  | x :: l, y :: l', h => by
    unfold eqL
    rw [Bool.and_eq_true]
    exact ⟨h 0 (by simp) (by simp), eqL_all l l' fun j h1 h2 => h (j + 1) (by simpa using h1) (by simpa using h2)⟩
theorem eqL_no : ∀ (l l' : List R) (j : Nat) (h : j < l.length) (h' : j < l'.length), eqR l[j] l'[j] = false → eqL l l' = false
  | [], _, j, h, _, _ => by simp at h
  | _ :: _, [], j, _, h, _ => by simp at h
  | x :: l, y :: l', 0, _, _, e => by
    unfold eqL
    simp only [List.getElem_cons_zero] at e
    rw [e]; rfl
  | x :: l, y :: l', j + 1, h, h', e => by
    unfold eqL
    rw [eqL_no l l' j (by simpa using h) (by simpa using h') (by simpa using e), Bool.and_false]
mutual
theorem eqR_refl : ∀ x : R, eqR x x = true
  | .mk k s n l => by
    unfold eqR
    rw [eqL_refl l]
    simp
theorem eqL_refl : ∀ l : List R, eqL l l = true
  | [] => by unfold eqL; rfl
  | x :: l => by
    unfold eqL
    rw [eqR_refl x, eqL_refl l]; rfl
end
mutual
theorem eqR_eq : ∀ x y : R, eqR x y = true → x = y
  | .mk k s n l, .mk k' s' n' l', h => by
    unfold eqR at h
    simp only [Bool.and_eq_true, decide_eq_true_eq] at h
    rw [h.1, h.2.1, h.2.2.1, eqL_eq l l' h.2.2.2.1 h.2.2.2.2]
theorem eqL_eq : ∀ l l' : List R, l.length = l'.length → eqL l l' = true → l = l'
  | [], [], _, _ => rfl
  | [], _ :: _, h, _ => by simp at h
  | _ :: _, [], h, _ => by simp at h
  | x :: l, y :: l', h, e => by
    unfold eqL at e
    rw [Bool.and_eq_true] at e
    rw [eqR_eq x y e.1, eqL_eq l l' (by simpa using h) e.2]
end
theorem heads_lt {x : R} {j : Nat} (h : j < x.l.length) : (heads 0 x.l[j]).length < (heads 0 x).length := by
  rw [heads_eq 0 x, List.length_cons]
  have h1 := headsL_take_le 1 x.l (j + 1)
  rw [headsL_take 1 h, List.length_append] at h1
  have h2 := heads_len 0 1 x.l[j]
  rw [Nat.zero_add]
  omega
end Rp

/-- a reply wherever it lies. -/
def RepA (w : World) (r : Rp.R) (v : Value) : Prop := Rep (fun _ => True) w r v
theorem RepA.later {w w' : World} {r : Rp.R} {v : Value} (h : RepA w r v) (hb : Below w.heap.size w w') : RepA w' r v := Rep.later h hb

/-- its value's parts, its elements. -/
theorem RepA.at {w : World} {k n : Int} {s : List UInt8} {l : List Rp.R} {a : Option Addr} {m cap : Nat} (h : RepA w (.mk k s n l) (rv k s n a m cap)) :
    m = l.length ∧ Fit k s n l.length cap ∧ (l = [] ∨ ∃ b off, a = some ⟨b, off, none⟩ ∧ b < w.heap.size ∧ ∀ j (h : j < l.length), ∃ aj cj, w.cell? ⟨b, off + j * 4, none⟩ = some (.int .i64 l[j].k) ∧ w.cell? ⟨b, off + j * 4 + 1, none⟩ = some (.string ⟨l[j].s.toArray⟩) ∧ w.cell? ⟨b, off + j * 4 + 2, none⟩ = some (.int .i64 l[j].n) ∧ w.cell? ⟨b, off + j * 4 + 3, none⟩ = some (.slice aj l[j].l.length cj) ∧ RepA w l[j] (rv l[j].k l[j].s l[j].n aj l[j].l.length cj)) := by
  obtain ⟨a', cap', hv, hf, hl⟩ := Rep.parts h
  unfold rv at hv
  simp only [Rp.R.k, Rp.R.s, Rp.R.n, Rp.R.l, Value.agg.injEq, Array.mk.injEq, List.cons.injEq, and_true, true_and, Value.slice.injEq] at hv
  obtain ⟨rfl, rfl, rfl⟩ := hv
  refine ⟨rfl, hf, ?_⟩
  rcases hl with hl | ⟨b, off, rfl, _, hlt, hr⟩
  · exact .inl hl
  · refine .inr ⟨b, off, rfl, hlt, fun j hj => ?_⟩
    obtain ⟨v0, v1, v2, v3, c0, c1, c2, c3, hrep⟩ := hr.get j hj
    obtain ⟨a2, cap2, hv2, _⟩ := hrep.parts
    have hrep2 := hrep
    rw [hv2] at hrep2
    unfold rv at hv2
    simp only [Rp.R.k, Rp.R.s, Rp.R.n, Rp.R.l, Value.agg.injEq, Array.mk.injEq, List.cons.injEq, and_true] at hv2
    obtain ⟨rfl, rfl, rfl, rfl⟩ := hv2
    exact ⟨a2, cap2, c0, c1, c2, c3, hrep2⟩

theorem smS_next {w2 W1 e : World} {Pa Pb ba bb oa ob : Nat} {x3 y3 x0 x1 x2 x4 y0 y1 y2 y4 : Value} (H : (Pa < w2.heap.size ∧ Pb < w2.heap.size ∧ ba < w2.heap.size ∧ bb < w2.heap.size))
    (h : W1.cell? ⟨Pa, 3, none⟩ = some x3 ∧ W1.cell? ⟨Pb, 3, none⟩ = some y3 ∧ W1.cell? ⟨ba, oa, none⟩ = some x0 ∧ W1.cell? ⟨ba, oa + 1, none⟩ = some x1 ∧ W1.cell? ⟨ba, oa + 2, none⟩ = some x2 ∧ W1.cell? ⟨ba, oa + 3, none⟩ = some x4 ∧ W1.cell? ⟨bb, ob, none⟩ = some y0 ∧ W1.cell? ⟨bb, ob + 1, none⟩ = some y1 ∧ W1.cell? ⟨bb, ob + 2, none⟩ = some y2 ∧ W1.cell? ⟨bb, ob + 3, none⟩ = some y4 ∧ Below w2.heap.size w2 W1) (hb : Below W1.heap.size W1 e) :
    e.cell? ⟨Pa, 3, none⟩ = some x3 ∧ e.cell? ⟨Pb, 3, none⟩ = some y3 ∧ e.cell? ⟨ba, oa, none⟩ = some x0 ∧ e.cell? ⟨ba, oa + 1, none⟩ = some x1 ∧ e.cell? ⟨ba, oa + 2, none⟩ = some x2 ∧ e.cell? ⟨ba, oa + 3, none⟩ = some x4 ∧ e.cell? ⟨bb, ob, none⟩ = some y0 ∧ e.cell? ⟨bb, ob + 1, none⟩ = some y1 ∧ e.cell? ⟨bb, ob + 2, none⟩ = some y2 ∧ e.cell? ⟨bb, ob + 3, none⟩ = some y4 ∧ Below w2.heap.size w2 e := by
  obtain ⟨h1, h2, h3, h4⟩ := H
  obtain ⟨c1, c2, c3, c4, c5, c6, c7, c8, c9, c10, hB⟩ := h
  have hs := hB.size
  have e1 : ∀ b o, b < w2.heap.size → e.cell? ⟨b, o, none⟩ = W1.cell? ⟨b, o, none⟩ := fun b o h => hb.cell (p := ⟨b, o, none⟩) (Nat.lt_of_lt_of_le h hs)
  exact ⟨(e1 _ _ h1).trans c1, (e1 _ _ h2).trans c2, (e1 _ _ h3).trans c3, (e1 _ _ h3).trans c4, (e1 _ _ h3).trans c5, (e1 _ _ h3).trans c6, (e1 _ _ h4).trans c7, (e1 _ _ h4).trans c8, (e1 _ _ h4).trans c9, (e1 _ _ h4).trans c10, hB.trans (hb.mono hs)⟩

set_option maxRecDepth 100000 in
set_option maxHeartbeats 8000000 in
theorem refSame_any : ∀ (N : Nat) (x y : Rp.R) (a b : Option Addr) (c d : Nat) (w : World), (Rp.heads 0 x).length ≤ N → RepA w x (rv x.k x.s x.n a x.l.length c) → RepA w y (rv y.k y.s y.n b y.l.length d) →
    Calls Tryd.prog 16 #[rv x.k x.s x.n a x.l.length c, rv y.k y.s y.n b y.l.length d] w fun e W => e = .returned (.bool (Rp.eqR x y)) ∧ Below w.heap.size w W := by
  intro N
  induction N with
  | zero =>
    intro x y a b c d w hN
    have := Rp.heads_ne 0 x
    omega
  | succ N ih =>
    intro x y a b c d w hN hx hy
    have hrec : ∀ j (h : j < x.l.length), (Rp.heads 0 x.l[j]).length ≤ N := fun j h => by have := Rp.heads_lt h; omega
    obtain ⟨k, s, n, l⟩ := x
    obtain ⟨k', s', n', l'⟩ := y
    simp only [Rp.R.k, Rp.R.s, Rp.R.n, Rp.R.l] at hx hy hrec ⊢
    obtain ⟨-, hf, hxl⟩ := hx.at
    obtain ⟨-, hg, hyl⟩ := hy.at
    unfold Fit at hf hg
    obtain ⟨f1, f2, f3, f4, f5, f6, f7, f8⟩ := hf
    obtain ⟨g1, g2, g3, g4, g5, g6, g7, g8⟩ := hg
    clear hx hy hN
    have HX := Lib.hid hxl
    have HY := Lib.hid hyl
    have HR := Lib.hid hrec
    have IH := Lib.hid ih
    have hbel : Below w.heap.size w ((w.alloc (.cells #[.int .i64 k, .string ⟨s.toArray⟩, .int .i64 n, .slice a l.length c] 24)).alloc (.cells #[.int .i64 k', .string ⟨s'.toArray⟩, .int .i64 n', .slice b l'.length d] 24)) := ((Below.refl _ w).alloc (Nat.le_refl _) _).alloc (by simp) _
    have HBL := Lib.hid hbel
    clear hxl hyl hrec ih hbel
    unfold rv Rp.eqR
    have e1 : (k == k') = decide (k = k') := rfl
    by_cases hk : k = k'
    rotate_left
    · have ek : (k == k') = false := beq_eq_false_iff_ne.2 hk
      rw [decide_eq_false hk]
      clear HX HY HR IH e1
      generalize l.length = nl at *
      generalize l'.length = nm at *
      go_enter Tryd.func16, Tryd.ntmps16
      go_wp2
      go_ret
      exact ⟨rfl, HBL.out⟩
    subst hk
    rw [decide_eq_true rfl]
    by_cases hs : s = s'
    rotate_left
    · have es : (s == s') = false := beq_eq_false_iff_ne.2 hs
      rw [decide_eq_false hs]
      clear HX HY HR IH e1
      generalize l.length = nl at *
      generalize l'.length = nm at *
      go_enter Tryd.func16, Tryd.ntmps16
      go_wp2
      go_ret
      exact ⟨rfl, HBL.out⟩
    subst hs
    rw [decide_eq_true rfl]
    by_cases hn : n = n'
    rotate_left
    · have en : (n == n') = false := beq_eq_false_iff_ne.2 hn
      rw [decide_eq_false hn]
      clear HX HY HR IH e1
      generalize l.length = nl at *
      generalize l'.length = nm at *
      go_enter Tryd.func16, Tryd.ntmps16
      go_wp2
      go_ret
      exact ⟨rfl, HBL.out⟩
    subst hn
    rw [decide_eq_true rfl]
    by_cases hl : l.length = l'.length
    rotate_left
    · have hlI : ¬ (l.length : Int) = (l'.length : Int) := by omega
      have el : ((l.length : Int) == (l'.length : Int)) = false := beq_eq_false_iff_ne.2 hlI
      have el2 : (l.length == l'.length) = false := beq_eq_false_iff_ne.2 hl
      rw [decide_eq_false hl]
      clear HX HY HR IH e1
      generalize l.length = nl at *
      generalize l'.length = nm at *
      go_enter Tryd.func16, Tryd.ntmps16
      go_wp2
      go_ret
      exact ⟨rfl, HBL.out⟩
    rw [decide_eq_true hl]
    simp only [Bool.true_and]
    rw [← hl]
    rw [← hl] at g6 g7 HBL
    have HL := Lib.hid hl
    clear hl e1
    obtain ⟨w2, hw2⟩ : ∃ w2, (w.alloc (.cells #[.int .i64 k, .string ⟨s.toArray⟩, .int .i64 n, .slice a l.length c] 24)).alloc (.cells #[.int .i64 k, .string ⟨s.toArray⟩, .int .i64 n, .slice b l.length d] 24) = w2 := ⟨_, rfl⟩
    have hs2 : w2.heap.size = w.heap.size + 2 := by rw [← hw2]; simp
    have hxa : w2.heap[w.heap.size]? = some (.cells #[.int .i64 k, .string ⟨s.toArray⟩, .int .i64 n, .slice a l.length c] 24 (0, 0)) := by
      rw [← hw2]
      exact (((Below.refl _ _).alloc (Nat.le_refl _) _).block _ (by simp)).trans (World.alloc_heap_new w _)
    have hxb : w2.heap[w.heap.size + 1]? = some (.cells #[.int .i64 k, .string ⟨s.toArray⟩, .int .i64 n, .slice b l.length d] 24 (0, 0)) := by
      rw [← hw2]
      have := World.alloc_heap_new (w.alloc (.cells #[.int .i64 k, .string ⟨s.toArray⟩, .int .i64 n, .slice a l.length c] 24)) (.cells #[.int .i64 k, .string ⟨s.toArray⟩, .int .i64 n, .slice b l.length d] 24)
      rwa [World.size_alloc] at this
    obtain ⟨p0, p1, p2, p3⟩ := cells_four hxa
    obtain ⟨q0, q1, q2, q3⟩ := cells_four hxb
    rw [hw2] at HBL
    have HA := Lib.hid hxa
    have HBb := Lib.hid hxb
    have HW2 := Lib.hid hw2
    have hS2 := Lib.hid hs2
    have eki : (k != k) = false := by simp
    have eni : (n != n) = false := by simp
    have esi : (s != s) = false := by simp
    have eli : (l.length != l.length) = false := by simp
    clear hxa hxb hw2 hs2 p0 p1 p2 p3 q0 q1 q2 q3
    go_enter Tryd.func16, Tryd.ntmps16
    go_upto_region 4 with (fail)
    rw [HW2.out]
    clear HW2
    go_loopw [5] (fun i wr => ∃ m : Nat, m ≤ l.length ∧ i = .int .i64 (m : Int) ∧ Hid (∀ j (h : j < l.length) (h' : j < l'.length), j < m → Rp.eqR l[j] l'[j] = true) ∧ Hid (Below w2.heap.size w2 wr)) (fun i _ => l.length - (intOf i).toNat)
    case atStart => exact ⟨0, Nat.zero_le _, rfl, Lib.hid (fun j _ _ h => by omega), Lib.hid (Below.refl _ _)⟩
    case round =>
      obtain ⟨m, hm, rfl, HE, HK⟩ := hrel
      have hxa := (HK.out.block w.heap.size (by have := hS2.out; omega)).trans HA.out
      have hxb := (HK.out.block (w.heap.size + 1) (by have := hS2.out; omega)).trans HBb.out
      obtain ⟨p0, p1, p2, p3⟩ := cells_four hxa
      obtain ⟨q0, q1, q2, q3⟩ := cells_four hxb
      clear hxa hxb p0 p1 p2 q0 q1 q2
      by_cases hlt : m < l.length
      · obtain ⟨ba, oa, rfl, hba, hca⟩ := HX.out.resolve_left (by rintro rfl; simp at hlt)
        obtain ⟨bb, ob, rfl, hbb, hcb⟩ := HY.out.resolve_left (by intro e; have := HL.out; rw [e, List.length_nil] at this; omega)
        have hlt' : m < l'.length := by have := HL.out; omega
        obtain ⟨a1, c1, x0, x1, x2, x3, hr1⟩ := hca m hlt
        obtain ⟨a2, c2, y0, y1, y2, y3, hr2⟩ := hcb m hlt'
        clear hca hcb
        have hcall : ∀ W', Below w2.heap.size w2 W' → Calls Tryd.prog 16 #[rv l[m].k l[m].s l[m].n a1 l[m].l.length c1, rv l'[m].k l'[m].s l'[m].n a2 l'[m].l.length c2] W' fun e W => e = .returned (.bool (Rp.eqR l[m] l'[m])) ∧ Below W'.heap.size W' W := fun W' h => by
          have hbw : Below w.heap.size w W' := HBL.out.trans (h.mono HBL.out.size)
          exact IH.out l[m] l'[m] a1 a2 c1 c2 W' (HR.out m hlt) (hr1.later hbw) (hr2.later hbw)
        have hcell : ∀ b o v, b < w.heap.size → w.cell? ⟨b, o, none⟩ = some v → wr.cell? ⟨b, o, none⟩ = some v := fun b o v hb h => ((HBL.out.trans (HK.out.mono HBL.out.size)).cell (p := ⟨b, o, none⟩) hb).trans h
        have x0 := hcell _ _ _ hba x0
        have x1 := hcell _ _ _ hba x1
        have x2 := hcell _ _ _ hba x2
        have x3 := hcell _ _ _ hba x3
        have y0 := hcell _ _ _ hbb y0
        have y1 := hcell _ _ _ hbb y1
        have y2 := hcell _ _ _ hbb y2
        have y3 := hcell _ _ _ hbb y3
        have HE1 : Rp.eqR l[m] l'[m] = true → Hid (∀ j (h : j < l.length) (h' : j < l'.length), j < m + 1 → Rp.eqR l[j] l'[j] = true) := fun e => Lib.hid fun j h h' hj => by
          by_cases ej : j = m
          · subst ej; exact e
          · exact HE.out j h h' (by omega)
        have HE2 : Rp.eqR l[m] l'[m] = false → Hid (Rp.eqL l l' = false) := fun e => Lib.hid (Rp.eqL_no l l' m hlt hlt' e)
        have HN := Lib.hid (show w.heap.size < w2.heap.size ∧ w.heap.size + 1 < w2.heap.size ∧ ba < w2.heap.size ∧ bb < w2.heap.size from by have := hS2.out; omega)
        unfold rv at hcall
        clear hr1 hr2 hcell hba hbb HX HY
        generalize Rp.eqR l[m] l'[m] = E at *
        generalize l[m] = z1 at *
        generalize l'[m] = z2 at *
        obtain ⟨k1, s1, n1, l1⟩ := z1
        obtain ⟨k2, s2, n2, l2⟩ := z2
        simp only [Rp.R.k, Rp.R.s, Rp.R.n, Rp.R.l] at hcall x0 x1 x2 x3 y0 y1 y2 y3
        generalize l1.length = m1 at *
        generalize l2.length = m2 at *
        have HC := Lib.hid hcall
        have h0 : (0 : Int) ≤ (m : Int) := by omega
        have hltI : (m : Int) < (l.length : Int) := by omega
        have hmT : ((m : Int)).toNat = m := by omega
        have ewn : IntKind.i64.wrap ((m : Int) + 1) = (m : Int) + 1 := IntWalk.i64_in _ (by omega)
        have HS : wr.drew.cell? ⟨w.heap.size, 3, none⟩ = some (.slice (some ⟨ba, oa, none⟩) l.length c) ∧ wr.drew.cell? ⟨w.heap.size + 1, 3, none⟩ = some (.slice (some ⟨bb, ob, none⟩) l.length d) ∧ wr.drew.cell? ⟨ba, oa + m * 4, none⟩ = some (.int .i64 k1) ∧ wr.drew.cell? ⟨ba, oa + m * 4 + 1, none⟩ = some (.string ⟨s1.toArray⟩) ∧ wr.drew.cell? ⟨ba, oa + m * 4 + 2, none⟩ = some (.int .i64 n1) ∧ wr.drew.cell? ⟨ba, oa + m * 4 + 3, none⟩ = some (.slice a1 m1 c1) ∧ wr.drew.cell? ⟨bb, ob + m * 4, none⟩ = some (.int .i64 k2) ∧ wr.drew.cell? ⟨bb, ob + m * 4 + 1, none⟩ = some (.string ⟨s2.toArray⟩) ∧ wr.drew.cell? ⟨bb, ob + m * 4 + 2, none⟩ = some (.int .i64 n2) ∧ wr.drew.cell? ⟨bb, ob + m * 4 + 3, none⟩ = some (.slice a2 m2 c2) ∧ Below w2.heap.size w2 wr.drew :=
          ⟨(World.cell?_drew _ _).trans p3, (World.cell?_drew _ _).trans q3, (World.cell?_drew _ _).trans x0, (World.cell?_drew _ _).trans x1, (World.cell?_drew _ _).trans x2, (World.cell?_drew _ _).trans x3, (World.cell?_drew _ _).trans y0, (World.cell?_drew _ _).trans y1, (World.cell?_drew _ _).trans y2, (World.cell?_drew _ _).trans y3, HK.out.drew⟩
        clear hcall x0 x1 x2 x3 y0 y1 y2 y3
        go_upto_region 6 with (fail)
        clear p3 q3
        go_region_held3 (fun W' => W'.cell? ⟨w.heap.size, 3, none⟩ = some (.slice (some ⟨ba, oa, none⟩) l.length c) ∧ W'.cell? ⟨w.heap.size + 1, 3, none⟩ = some (.slice (some ⟨bb, ob, none⟩) l.length d) ∧ W'.cell? ⟨ba, oa + m * 4, none⟩ = some (.int .i64 k1) ∧ W'.cell? ⟨ba, oa + m * 4 + 1, none⟩ = some (.string ⟨s1.toArray⟩) ∧ W'.cell? ⟨ba, oa + m * 4 + 2, none⟩ = some (.int .i64 n1) ∧ W'.cell? ⟨ba, oa + m * 4 + 3, none⟩ = some (.slice a1 m1 c1) ∧ W'.cell? ⟨bb, ob + m * 4, none⟩ = some (.int .i64 k2) ∧ W'.cell? ⟨bb, ob + m * 4 + 1, none⟩ = some (.string ⟨s2.toArray⟩) ∧ W'.cell? ⟨bb, ob + m * 4 + 2, none⟩ = some (.int .i64 n2) ∧ W'.cell? ⟨bb, ob + m * 4 + 3, none⟩ = some (.slice a2 m2 c2) ∧ Below w2.heap.size w2 W')
          (with_reducible exact HS)
          (first
            | (go_at_call 16; (with_reducible refine (HC.out _ HS.2.2.2.2.2.2.2.2.2.2).mono ?_); rintro e w5 ⟨rfl, hb⟩; replace HS := smS_next HN.out HS hb; clear hb))
        cases E with
        | true =>
          go_wp2
          go_roundw
          case rel => exact ⟨m + 1, by omega, by go_num, HE1 (by simp), Lib.hid HS.2.2.2.2.2.2.2.2.2.2⟩
          case measure => simp [intOf]; omega
        | false =>
          go_wp2
          go_ret
          refine ⟨by rw [(HE2 (by simp)).out]; rfl, HBL.out.trans (HS.2.2.2.2.2.2.2.2.2.2.mono HBL.out.size)⟩
      · obtain rfl : m = l.length := by omega
        have HF := Lib.hid (Rp.eqL_all l l' fun j h h' => HE.out j h h' h)
        go_wp2
        go_ret
        refine ⟨by rw [HF.out]; rfl, HBL.out.trans (HK.out.mono HBL.out.size)⟩
end Go.Proofs.YtcjbfgkmpoebgaaDoor
