/- The contracts of slices.EqualFunc at replies, and of resp.Same. -/
import Derived.Test.YtcjbfgkmpoebgaaDoorRpSame
import Derived.LoopTactic
namespace Go.Proofs.YtcjbfgkmpoebgaaDoor
open Go.RowKit Go.Shelf
attribute [local go_sem] Oper.semAt_some
set_option linter.unusedVariables false
set_option linter.unusedSimpArgs false

/-- the elements of a reply as they lie. -/
def Els (w : World) (a : Option Addr) (l : List Rp.R) : Prop :=
  l = [] ∨ ∃ b off, a = some ⟨b, off, none⟩ ∧ b < w.heap.size ∧ ∀ j (h : j < l.length), ∃ aj cj, w.cell? ⟨b, off + j * 4, none⟩ = some (.int .i64 l[j].k) ∧ w.cell? ⟨b, off + j * 4 + 1, none⟩ = some (.string ⟨l[j].s.toArray⟩) ∧ w.cell? ⟨b, off + j * 4 + 2, none⟩ = some (.int .i64 l[j].n) ∧ w.cell? ⟨b, off + j * 4 + 3, none⟩ = some (.slice aj l[j].l.length cj) ∧ RepA w l[j] (rv l[j].k l[j].s l[j].n aj l[j].l.length cj)

set_option maxRecDepth 100000 in
set_option maxHeartbeats 8000000 in
theorem equalFunc_any (l m : List Rp.R) (a b : Option Addr) (c d : Nat) (w : World) (hX : Els w a l) (hY : Els w b m) (hl : l.length ≤ 281474976710656) (hm : m.length ≤ 281474976710656)
    (hrec : ∀ W, ∀ j (h : j < l.length) (h' : j < m.length) aj cj bj dj, RepA W l[j] (rv l[j].k l[j].s l[j].n aj l[j].l.length cj) → RepA W m[j] (rv m[j].k m[j].s m[j].n bj m[j].l.length dj) →
      Calls Tryd.prog 15 #[rv l[j].k l[j].s l[j].n aj l[j].l.length cj, rv m[j].k m[j].s m[j].n bj m[j].l.length dj] W fun e W' => e = .returned (.bool (Rp.eqR l[j] m[j])) ∧ Below W.heap.size W W') :
    Calls Tryd.prog 28 #[.slice a l.length c, .slice b m.length d, .func (.func 15) #[] #[]] w fun e W => e = .returned (.bool (decide (l.length = m.length) && Rp.eqL l m)) ∧ Below w.heap.size w W := by
  have HX := Lib.hid hX
  have HY := Lib.hid hY
  have HR := Lib.hid hrec
  have lI : (l.length : Int) ≤ 281474976710656 := by omega
  have mI : (m.length : Int) ≤ 281474976710656 := by omega
  clear hX hY hrec
  by_cases hlm : l.length = m.length
  rotate_left
  · have hne : ((l.length : Int) == (m.length : Int)) = false := by rw [beq_eq_false_iff_ne]; omega
    have hnm : ¬ (l.length : Int) = (m.length : Int) := by omega
    rw [decide_eq_false hlm]
    clear HX HY HR
    generalize l.length = x at *
    generalize m.length = y at *
    go_enter Tryd.func28, Tryd.ntmps28
    go_wp2
    go_ret
    exact ⟨rfl, Below.refl _ _⟩
  rw [decide_eq_true hlm, ← hlm, Bool.true_and]
  have HLM := Lib.hid hlm
  clear hlm hm mI
  go_enter Tryd.func28, Tryd.ntmps28
  go_wp2_with fail
  go_loopw [6, 7, 8, 9, 17] (fun r _ _ _ i wr => ∃ q : Nat, q ≤ l.length ∧ r = .bool false ∧ i = .int .i64 (q : Int) ∧ Hid (∀ j (h : j < l.length) (h' : j < m.length), j < q → Rp.eqR l[j] m[j] = true) ∧ Hid (Below w.heap.size w wr)) (fun _ _ _ _ i _ => l.length - (intOf i).toNat)
  case atStart => exact ⟨0, Nat.zero_le _, rfl, rfl, Lib.hid (fun j _ _ h => by omega), Lib.hid (Below.refl _ _)⟩
  case round =>
    obtain ⟨q, hq, rfl, rfl, HE, HB⟩ := hrel
    have q0 : (0 : Int) ≤ (q : Int) := by omega
    have wq1 : IntKind.i64.wrap ((q : Int) + 1) = (q : Int) + 1 := IntWalk.i64_in _ (by omega)
    by_cases hlt : q < l.length
    · have hltI : (q : Int) < (l.length : Int) := by omega
      have hlt' : q < m.length := by have := HLM.out; omega
      obtain ⟨ba, oa, rfl, hba, hca⟩ := HX.out.resolve_left (by rintro rfl; simp at hlt)
      obtain ⟨bb, ob, rfl, hbb, hcb⟩ := HY.out.resolve_left (by intro e; rw [e] at hlt'; simp at hlt')
      obtain ⟨a1, c1, x0, x1, x2, x3, hr1⟩ := hca q hlt
      obtain ⟨a2, c2, y0, y1, y2, y3, hr2⟩ := hcb q hlt'
      clear hca hcb
      have hcall : ∀ W', Below w.heap.size w W' → _ := fun W' h => HR.out W' q hlt hlt' a1 c1 a2 c2 (hr1.later h) (hr2.later h)
      have hcell : ∀ b o v, b < w.heap.size → w.cell? ⟨b, o, none⟩ = some v → wr.cell? ⟨b, o, none⟩ = some v := fun b o v hb h => (HB.out.cell (p := ⟨b, o, none⟩) hb).trans h
      have x0 := hcell _ _ _ hba x0
      have x1 := hcell _ _ _ hba x1
      have x2 := hcell _ _ _ hba x2
      have x3 := hcell _ _ _ hba x3
      have y0 := hcell _ _ _ hbb y0
      have y1 := hcell _ _ _ hbb y1
      have y2 := hcell _ _ _ hbb y2
      have y3 := hcell _ _ _ hbb y3
      have HE1 : Rp.eqR l[q] m[q] = true → Hid (∀ j (h : j < l.length) (h' : j < m.length), j < q + 1 → Rp.eqR l[j] m[j] = true) := fun e => Lib.hid fun j h h' hj => by
        by_cases ej : j = q
        · subst ej; exact e
        · exact HE.out j h h' (by omega)
      have HE2 : Rp.eqR l[q] m[q] = false → Hid (Rp.eqL l m = false) := fun e => Lib.hid (Rp.eqL_no l m q hlt hlt' e)
      have HN := Lib.hid (show ba < w.heap.size ∧ bb < w.heap.size from ⟨hba, hbb⟩)
      unfold rv at hcall
      clear hr1 hr2 hcell hba hbb HX HY
      generalize Rp.eqR l[q] m[q] = E at *
      generalize l[q] = z1 at *
      generalize m[q] = z2 at *
      obtain ⟨k1, s1, n1, l1⟩ := z1
      obtain ⟨k2, s2, n2, l2⟩ := z2
      simp only [Rp.R.k, Rp.R.s, Rp.R.n, Rp.R.l] at hcall x0 x1 x2 x3 y0 y1 y2 y3
      generalize l1.length = m1 at *
      generalize l2.length = m2 at *
      have HC := Lib.hid hcall
      clear hcall
      go_upto_region 6 with (fail)
      obtain ⟨w2, hw2⟩ : ∃ w2, wr.alloc (.cells #[.int .i64 k1, .string ⟨s1.toArray⟩, .int .i64 n1, .slice a1 m1 c1] 24) = w2 := ⟨_, rfl⟩
      have hx2 := World.alloc_heap_new wr (.cells #[.int .i64 k1, .string ⟨s1.toArray⟩, .int .i64 n1, .slice a1 m1 c1] 24)
      have hb2 : Below wr.heap.size wr w2 := by rw [← hw2]; exact (Below.refl _ wr).alloc (Nat.le_refl _) _
      rw [hw2] at hx2 ⊢
      have HB2 := Lib.hid (HB.out.trans (hb2.mono HB.out.size))
      have hbb2 : bb < wr.heap.size := Nat.lt_of_lt_of_le HN.out.2 HB.out.size
      replace y0 := (hb2.cell (p := ⟨bb, ob + q * 4, none⟩) hbb2).trans y0
      replace y1 := (hb2.cell (p := ⟨bb, ob + q * 4 + 1, none⟩) hbb2).trans y1
      replace y2 := (hb2.cell (p := ⟨bb, ob + q * 4 + 2, none⟩) hbb2).trans y2
      replace y3 := (hb2.cell (p := ⟨bb, ob + q * 4 + 3, none⟩) hbb2).trans y3
      have HX2 := Lib.hid hx2
      have hwlt : wr.heap.size < w2.heap.size := (Array.getElem?_eq_some_iff.1 hx2).1
      clear hw2 hx2 hb2 x0 x1 x2 x3
      go_upto_region 7 with (fail)
      obtain ⟨w3, hw3⟩ : ∃ w3, w2.alloc (.cells #[.int .i64 k2, .string ⟨s2.toArray⟩, .int .i64 n2, .slice a2 m2 c2] 24) = w3 := ⟨_, rfl⟩
      have hy3 := World.alloc_heap_new w2 (.cells #[.int .i64 k2, .string ⟨s2.toArray⟩, .int .i64 n2, .slice a2 m2 c2] 24)
      have hb3 : Below w2.heap.size w2 w3 := by rw [← hw3]; exact (Below.refl _ w2).alloc (Nat.le_refl _) _
      rw [hw3] at hy3 ⊢
      have HB3 := Lib.hid (HB2.out.trans (hb3.mono HB2.out.size))
      have hx3 := (hb3.block _ hwlt).trans HX2.out
      clear y0 y1 y2 y3
      obtain ⟨x0, x1, x2, x3⟩ := cells_four hx3
      obtain ⟨y0, y1, y2, y3⟩ := cells_four hy3
      clear hw3 hy3 hb3 hx3
      go_wp2_with fail
      refine (HC.out w3 HB3.out).mono ?_
      rintro e w4 ⟨rfl, hb4⟩
      have HB4 := Lib.hid (HB3.out.trans (hb4.mono HB3.out.size))
      clear hb4 x0 x1 x2 x3 y0 y1 y2 y3
      cases E with
      | true =>
        go_wp2_with fail
        go_roundw
        case rel => exact ⟨q + 1, by omega, rfl, by go_num, HE1 (by simp), HB4⟩
        case measure => simp [intOf]; omega
      | false =>
        go_wp2_with fail
        go_ret
        exact ⟨by rw [(HE2 (by simp)).out]; rfl, HB4.out⟩
    · obtain rfl : q = l.length := by omega
      have hnl : ¬ (l.length : Int) < (l.length : Int) := by omega
      have HT : Hid (Rp.eqL l m = true) := Lib.hid (Rp.eqL_all l m fun j h h' => HE.out j h h' h)
      clear HE HX HY HR
      go_wp2
      go_ret
      exact ⟨by rw [HT.out]; rfl, HB.out⟩

set_option maxRecDepth 100000 in
set_option maxHeartbeats 8000000 in
theorem same_any : ∀ (N : Nat) (x y : Rp.R) (a b : Option Addr) (c d : Nat) (w : World), (Rp.heads 0 x).length ≤ N → RepA w x (rv x.k x.s x.n a x.l.length c) → RepA w y (rv y.k y.s y.n b y.l.length d) →
    Calls Tryd.prog 15 #[rv x.k x.s x.n a x.l.length c, rv y.k y.s y.n b y.l.length d] w fun e W => e = .returned (.bool (Rp.eqR x y)) ∧ Below w.heap.size w W := by
  intro N
  induction N with
  | zero =>
    intro x y a b c d w hN
    have := Rp.heads_ne 0 x
    omega
  | succ N ih =>
    intro x y a b c d w hN hx hy
    have hrec : ∀ j (h : j < x.l.length), (Rp.heads 0 x.l[j]).length ≤ N := fun j h => by have := Rp.heads_lt h; omega
    obtain ⟨k, s, n, l⟩ := x
    obtain ⟨k', s', n', l'⟩ := y
    simp only [Rp.R.k, Rp.R.s, Rp.R.n, Rp.R.l] at hx hy hrec ⊢
    obtain ⟨-, hf, hxl⟩ := hx.at
    obtain ⟨-, hg, hyl⟩ := hy.at
    have hxe : Els w a l := hxl
    have hye : Els w b l' := hyl
    unfold Fit at hf hg
    obtain ⟨f1, f2, f3, f4, f5, f6, f7, f8⟩ := hf
    obtain ⟨g1, g2, g3, g4, g5, g6, g7, g8⟩ := hg
    obtain ⟨w2, hw2⟩ : ∃ w2, (w.alloc (.cells #[.int .i64 k, .string ⟨s.toArray⟩, .int .i64 n, .slice a l.length c] 24)).alloc (.cells #[.int .i64 k', .string ⟨s'.toArray⟩, .int .i64 n', .slice b l'.length d] 24) = w2 := ⟨_, rfl⟩
    have hb2 : Below w.heap.size w w2 := by rw [← hw2]; exact ((Below.refl _ w).alloc (Nat.le_refl _) _).alloc (by simp) _
    have hels : ∀ (a : Option Addr) (l : List Rp.R), Els w a l → Els w2 a l := fun a l h => by
      rcases h with h | ⟨bb, off, ha, hlt, hc⟩
      · exact .inl h
      · refine .inr ⟨bb, off, ha, Nat.lt_of_lt_of_le hlt hb2.size, fun j hj => ?_⟩
        obtain ⟨aj, cj, c0, c1, c2, c3, hr⟩ := hc j hj
        exact ⟨aj, cj, (hb2.cell (p := ⟨bb, off + j * 4, none⟩) hlt).trans c0, (hb2.cell (p := ⟨bb, off + j * 4 + 1, none⟩) hlt).trans c1, (hb2.cell (p := ⟨bb, off + j * 4 + 2, none⟩) hlt).trans c2, (hb2.cell (p := ⟨bb, off + j * 4 + 3, none⟩) hlt).trans c3, RepA.later hr hb2⟩
    have heq := equalFunc_any l l' a b c d w2 (hels a l hxe) (hels b l' hye) f7 g7 (fun W j h h' aj cj bj dj r1 r2 => ih l[j] l'[j] aj bj cj dj W (hrec j h) r1 r2)
    have hxa : w2.heap[w.heap.size]? = some (.cells #[.int .i64 k, .string ⟨s.toArray⟩, .int .i64 n, .slice a l.length c] 24 (0, 0)) := by
      rw [← hw2]
      exact (((Below.refl _ _).alloc (Nat.le_refl _) _).block _ (by simp)).trans (World.alloc_heap_new w _)
    have hxb : w2.heap[w.heap.size + 1]? = some (.cells #[.int .i64 k', .string ⟨s'.toArray⟩, .int .i64 n', .slice b l'.length d] 24 (0, 0)) := by
      rw [← hw2]
      have := World.alloc_heap_new (w.alloc (.cells #[.int .i64 k, .string ⟨s.toArray⟩, .int .i64 n, .slice a l.length c] 24)) (.cells #[.int .i64 k', .string ⟨s'.toArray⟩, .int .i64 n', .slice b l'.length d] 24)
      rwa [World.size_alloc] at this
    obtain ⟨p0, p1, p2, p3⟩ := cells_four hxa
    obtain ⟨q0, q1, q2, q3⟩ := cells_four hxb
    have HW2 := Lib.hid hw2
    have HB2 := Lib.hid hb2
    unfold rv
    have hval : Rp.eqR (.mk k s n l) (.mk k' s' n' l') = (decide (k = k') && (decide (s = s') && (decide (n = n') && (decide (l.length = l'.length) && Rp.eqL l l')))) := by rw [Rp.eqR]
    rw [hval]
    generalize (decide (l.length = l'.length) && Rp.eqL l l') = E at heq ⊢
    have HQ := Lib.hid heq
    clear hx hy hN hxl hyl hxe hye hels heq hval hw2 hb2 hxa hxb hrec ih
    generalize l.length = nl at *
    generalize l'.length = nm at *
    by_cases hk : k = k'
    rotate_left
    · have ek : (k == k') = false := beq_eq_false_iff_ne.2 hk
      rw [decide_eq_false hk]
      go_enter Tryd.func15, Tryd.ntmps15
      go_upto_region 1 with (fail)
      rw [HW2.out]
      go_wp2
      go_ret
      exact ⟨rfl, HB2.out⟩
    subst hk
    rw [decide_eq_true rfl]
    by_cases hs : s = s'
    rotate_left
    · have es : (s == s') = false := beq_eq_false_iff_ne.2 hs
      rw [decide_eq_false hs]
      go_enter Tryd.func15, Tryd.ntmps15
      go_upto_region 1 with (fail)
      rw [HW2.out]
      go_wp2
      go_ret
      exact ⟨rfl, HB2.out⟩
    subst hs
    rw [decide_eq_true rfl]
    by_cases hn : n = n'
    rotate_left
    · have en : (n == n') = false := beq_eq_false_iff_ne.2 hn
      rw [decide_eq_false hn]
      go_enter Tryd.func15, Tryd.ntmps15
      go_upto_region 1 with (fail)
      rw [HW2.out]
      go_wp2
      go_ret
      exact ⟨rfl, HB2.out⟩
    subst hn
    rw [decide_eq_true rfl]
    simp only [Bool.true_and]
    go_enter Tryd.func15, Tryd.ntmps15
    go_upto_region 1 with (fail)
    rw [HW2.out]
    go_wp2_with fail
    refine HQ.out.mono ?_
    rintro e w3 ⟨rfl, hb3⟩
    have HB3 := Lib.hid (HB2.out.trans (hb3.mono HB2.out.size))
    clear hb3
    go_wp2_with fail
    go_ret
    exact ⟨rfl, HB3.out⟩
end Go.Proofs.YtcjbfgkmpoebgaaDoor
