/- The contract of the reference's ReadRoute (14.2). -/
import Derived.Test.YtahmddopbmjepaaDoorRA09
import Derived.Test.YtahmddopbmjepaaDoorRA38
import Derived.Test.YtahmddopbmjepaaDoorRA11
import Derived.Test.YtahmddopbmjepaaDoorRA21
import Derived.Test.YtahmddopbmjepaaDoorRA36
import Derived.BigQuiet
import Derived.Deep.Cut
import Derived.Deep.DeepCutAuto
namespace Go.Proofs.YtahmddopbmjepaaDoor
open Go.RowKit Go.Shelf
attribute [local go_sem] Oper.semAt_some
set_option linter.unusedVariables false
set_option linter.unusedSimpArgs false

namespace Rt
/-- how far the words are read: from p on the text is not cut yet, up to q it is seen. -/
def WI (s : Bs) (p q : Nat) (ws : List Bs) : Prop :=
  (∀ x ∈ ws, x.length ≤ s.length) ∧ ws.length ≤ q ∧ (q ≤ s.length → p ≤ q ∧ (32 : UInt8) ∉ (s.take q).drop p ∧ ws ++ wds (s.drop p) = wds s) ∧ (q = s.length + 1 → ws = wds s)
theorem WI.start (s : Bs) : WI s 0 0 [] := ⟨by simp, Nat.le_refl _, fun _ => ⟨Nat.le_refl _, by simp, by simp⟩, fun h => by simp at h⟩
theorem take_at' {s : Bs} {q : Nat} (h : q < s.length) : s.take (q + 1) = s.take q ++ [s.getD q 0] := by
  rw [List.take_succ_eq_append_getElem h]; simp [List.getD, h]
theorem drop_at' {s : Bs} {p q : Nat} (h : q < s.length) (hp : p ≤ q) : s.drop p = (s.take q).drop p ++ s.getD q 0 :: s.drop (q + 1) := by
  conv => lhs; rw [← List.take_append_drop q s, List.drop_append_of_le_length (by rw [List.length_take]; omega), List.drop_eq_getElem_cons h]
  simp [List.getD, h]
theorem WI.skip {s : Bs} {p q : Nat} {ws : List Bs} (h : WI s p q ws) (hq : q < s.length) (hc : s.getD q 0 ≠ 32) : WI s p (q + 1) ws := by
  obtain ⟨h0, h1, h2, h3⟩ := h
  obtain ⟨k1, k2, k3⟩ := h2 (by omega)
  refine ⟨h0, by omega, fun _ => ⟨by omega, ?_, k3⟩, fun h => by omega⟩
  rw [take_at' hq, List.drop_append_of_le_length (by rw [List.length_take]; omega)]
  rw [List.mem_append, not_or]
  refine ⟨k2, ?_⟩
  simp only [List.mem_singleton]
  exact fun e => hc e.symm
theorem WI.cut {s : Bs} {p q : Nat} {ws : List Bs} (h : WI s p q ws) (hq : q < s.length) (hc : s.getD q 0 = 32) : WI s (q + 1) (q + 1) (ws ++ [(s.take q).drop p]) := by
  obtain ⟨h0, h1, h2, h3⟩ := h
  obtain ⟨k1, k2, k3⟩ := h2 (by omega)
  refine ⟨fun x hx => ?_, by simp; omega, fun _ => ⟨Nat.le_refl _, by simp, ?_⟩, fun h => by omega⟩
  · rcases List.mem_append.1 hx with hx | hx
    · exact h0 x hx
    · rw [List.mem_singleton] at hx
      subst hx
      simp; omega
  · rw [← k3, drop_at' hq k1, hc, wds_cut k2]
    simp
theorem WI.last {s : Bs} {p : Nat} {ws : List Bs} (h : WI s p s.length ws) : WI s (s.length + 1) (s.length + 1) (ws ++ [(s.take s.length).drop p]) := by
  obtain ⟨h0, h1, h2, h3⟩ := h
  obtain ⟨k1, k2, k3⟩ := h2 (Nat.le_refl _)
  rw [List.take_length] at k2 ⊢
  refine ⟨fun x hx => ?_, by simp; omega, fun h => by omega, fun _ => by rw [← k3, wds_free k2]⟩
  rcases List.mem_append.1 hx with hx | hx
  · exact h0 x hx
  · rw [List.mem_singleton] at hx
    subst hx
    simp
theorem WI.mid {s : Bs} {p q : Nat} {ws : List Bs} (h : WI s p q ws) (hq : q ≤ s.length) : p ≤ q := (h.2.2.1 hq).1
end Rt

section
variable {P : Program} {ops : Array Oper} {Q : Exit → Act → World → Prop} {md : Region.Mode} {S : World → Prop} {f : Nat}
/-- three may come up. -/
theorem wpAnyL_three {i j l : Nat} {oi oj ol : Oper} {fuel : Nat} {listed : Array Bool} {a : Act} {w : World} (hr : Region.ready md ops listed = [i, j, l]) (hi : ops[i]? = some oi) (hj : ops[j]? = some oj) (hl : ops[l]? = some ol)
    (hgi : Region.wanted oi (yielded ops a.tmps) = true) (hgj : Region.wanted oj (yielded ops a.tmps) = true) (hgl : Region.wanted ol (yielded ops a.tmps) = true)
    (h1 : ∀ K : Act → World → Prop, (∀ a' w', (i ≠ f → S w') → wpAnyL P md ops Q S f fuel (listed.setIfInBounds i true) a' w' → K a' w') → oi.wp P a w K Q)
    (h2 : ∀ K : Act → World → Prop, (∀ a' w', (j ≠ f → S w') → wpAnyL P md ops Q S f fuel (listed.setIfInBounds j true) a' w' → K a' w') → oj.wp P a w K Q)
    (h3 : ∀ K : Act → World → Prop, (∀ a' w', (l ≠ f → S w') → wpAnyL P md ops Q S f fuel (listed.setIfInBounds l true) a' w' → K a' w') → ol.wp P a w K Q) : wpAnyL P md ops Q S f (fuel + 1) listed a w := by
  refine ⟨fun h0 => (by rw [hr] at h0; cases h0), fun k hk => ?_⟩
  rw [hr] at hk
  rcases List.mem_cons.1 hk with rfl | hk
  · unfold wpOp
    simp only [hi, hgi, if_true]
    exact .inl (h1 _ fun a' w' h1 h2 => ⟨h1, h2⟩)
  · rcases List.mem_cons.1 hk with rfl | hk
    · unfold wpOp
      simp only [hj, hgj, if_true]
      exact .inl (h2 _ fun a' w' h1 h2 => ⟨h1, h2⟩)
    · rw [List.mem_singleton] at hk
      subst hk
      unfold wpOp
      simp only [hl, hgl, if_true]
      exact .inl (h3 _ fun a' w' h1 h2 => ⟨h1, h2⟩)
end

theorem two_next {A B : World} {p0 p1 : Addr} {v0 v1 : Value} (h : A.cell? p0 = some v0 ∧ A.cell? p1 = some v1) (hb : Below A.heap.size A B) : B.cell? p0 = some v0 ∧ B.cell? p1 = some v1 :=
  ⟨(hb.cell (World.block_lt_of_cell? A p0 h.1)).trans h.1, (hb.cell (World.block_lt_of_cell? A p1 h.2)).trans h.2⟩
theorem cell_set_far {W : World} {g b o : Nat} (h : g ≠ b) (j : Nat) (v : Value) : (W.setCell ⟨g, j, none⟩ v).cell? ⟨b, o, none⟩ = W.cell? ⟨b, o, none⟩ :=
  World.cell?_of_block (w := W) (a := ⟨b, o, none⟩) (by simp [World.setCell, Array.getElem?_modify, h])
theorem two_set {W : World} {b o0 o1 g n : Nat} {v0 v1 : Value} (h : W.cell? ⟨b, o0, none⟩ = some v0 ∧ W.cell? ⟨b, o1, none⟩ = some v1) (hb : b < n) (hg : n ≤ g) (x y : Value) :
    ((W.setCell ⟨g, 0, none⟩ x).setCell ⟨g, 1, none⟩ y).cell? ⟨b, o0, none⟩ = some v0 ∧ ((W.setCell ⟨g, 0, none⟩ x).setCell ⟨g, 1, none⟩ y).cell? ⟨b, o1, none⟩ = some v1 := by
  have hne : g ≠ b := by omega
  rw [cell_set_far hne, cell_set_far hne, cell_set_far hne, cell_set_far hne]
  exact h
theorem box2_set {W : World} {g B : Nat} {T : TypeId} {p q : Value} (hne : g ≠ B) (h : Box2 W B T p q) (x y : Value) : Box2 ((W.setCell ⟨g, 0, none⟩ x).setCell ⟨g, 1, none⟩ y) B T p q := by
  unfold Box2 at h ⊢
  simp [World.setCell, Array.getElem?_modify, h, hne]

/-- where both numbers lie in their boxes. -/
def MetR (w : World) (n0 : Int) (o0 : Bool) (n1 : Int) (o1 : Bool) (p q : Value) (W : World) : Prop :=
  ∃ x y, p = .pointer (some ⟨x, 0, none⟩) ∧ q = .pointer (some ⟨y, 0, none⟩) ∧ Box2 W x 93 (.int .i64 n0) (.bool o0) ∧ Box2 W y 93 (.int .i64 n1) (.bool o1) ∧ Below w.heap.size w W
theorem met_of {w W : World} {n0 : Int} {o0 : Bool} {n1 : Int} {o1 : Bool} {x y : Nat} (hb : Below w.heap.size w W) (hx : Box2 W x 93 (.int .i64 0) (.bool false)) (hy : Box2 W y 93 (.int .i64 0) (.bool false)) (hne : x ≠ y) (h1 : w.heap.size ≤ x) (h2 : w.heap.size ≤ y) :
    MetR w n0 o0 n1 o1 (.pointer (some ⟨x, 0, none⟩)) (.pointer (some ⟨y, 0, none⟩)) ((((W.setCell ⟨x, 0, none⟩ (.int .i64 n0)).setCell ⟨x, 1, none⟩ (.bool o0)).setCell ⟨y, 0, none⟩ (.int .i64 n1)).setCell ⟨y, 1, none⟩ (.bool o1)) :=
  ⟨x, y, rfl, rfl, box2_set (fun e => hne e.symm) (hx.store _ _) _ _, (box2_set hne hy _ _).store _ _, (((hb.setCell (p := ⟨x, 0, none⟩) h1 _).setCell (p := ⟨x, 1, none⟩) h1 _).setCell (p := ⟨y, 0, none⟩) h2 _).setCell (p := ⟨y, 1, none⟩) h2 _⟩

/-- the result's box. -/
def SentAt (W : World) (B : Nat) (s : List UInt8) (a b : Int) : Prop := W.heap[B]? = some (.cells #[.string ⟨s.toArray⟩, .int .i64 a, .int .i64 b] 46 (0, 0))
theorem SentAt.at {W : World} {B : Nat} {s : List UInt8} {a b : Int} (h : SentAt W B s a b) : (W.cell? ⟨B, 0, none⟩ = some (.string ⟨s.toArray⟩) ∧ W.cell? ⟨B, 1, none⟩ = some (.int .i64 a) ∧ W.cell? ⟨B, 2, none⟩ = some (.int .i64 b)) ∧
    (W.frozen? ⟨B, 0, none⟩ = false ∧ W.frozen? ⟨B, 1, none⟩ = false ∧ W.frozen? ⟨B, 2, none⟩ = false) := by
  unfold SentAt at h
  simp [World.cell?, World.frozen?, h]
theorem SentAt.store {W : World} {B : Nat} {s : List UInt8} {a b : Int} (h : SentAt W B s a b) (s' : List UInt8) (a' b' : Int) : SentAt (((W.setCell ⟨B, 0, none⟩ (.string ⟨s'.toArray⟩)).setCell ⟨B, 1, none⟩ (.int .i64 a')).setCell ⟨B, 2, none⟩ (.int .i64 b')) B s' a' b' := by
  unfold SentAt at h ⊢
  simp [World.setCell, Array.getElem?_modify, h]
theorem SentAt.later {W W' : World} {B n : Nat} {s : List UInt8} {a b : Int} (h : SentAt W B s a b) (hb : Below n W W') (hn : B < n) : SentAt W' B s a b := (hb.block B hn).trans h
theorem SentAt.load {W : World} {B : Nat} {s : List UInt8} {a b : Int} (h : SentAt W B s a b) : (loadVar 46 ⟨B, 0, none⟩).run Tryd.prog W = .ok (.agg #[.string ⟨s.toArray⟩, .int .i64 a, .int .i64 b]) W := by
  obtain ⟨⟨h0, h1, h2⟩, -⟩ := h.at
  simp [loadVar, go_sem, h0, h1, h2]
theorem SentAt.drew {W : World} {B : Nat} {s : List UInt8} {a b : Int} (h : SentAt W B s a b) : SentAt W.drew B s a b := h
/-- stored at the end. -/
theorem sent_end {w W : World} {s : List UInt8} {a b : Int} (h : SentAt W w.heap.size s a b) (hb : Below w.heap.size w W) (s' : List UInt8) (a' b' : Int) :
    SentAt (((W.setCell ⟨w.heap.size, 0, none⟩ (.string ⟨s'.toArray⟩)).setCell ⟨w.heap.size, 1, none⟩ (.int .i64 a')).setCell ⟨w.heap.size, 2, none⟩ (.int .i64 b')) w.heap.size s' a' b' ∧
      Below w.heap.size w (((W.setCell ⟨w.heap.size, 0, none⟩ (.string ⟨s'.toArray⟩)).setCell ⟨w.heap.size, 1, none⟩ (.int .i64 a')).setCell ⟨w.heap.size, 2, none⟩ (.int .i64 b')) :=
  ⟨h.store s' a' b', ((hb.setCell (p := ⟨w.heap.size, 0, none⟩) (Nat.le_refl _) _).setCell (p := ⟨w.heap.size, 1, none⟩) (Nat.le_refl _) _).setCell (p := ⟨w.heap.size, 2, none⟩) (Nat.le_refl _) _⟩

/-- what ReadRoute tells. -/
def ReadOut (s : List UInt8) (w : World) (e : Ending) (W : World) : Prop := ∃ x a b, Rt.ReadOf s x a b ∧ e = .returned (.agg #[.string ⟨x.toArray⟩, .int .i64 a, .int .i64 b]) ∧ Below w.heap.size w W

set_option maxRecDepth 100000 in
set_option maxHeartbeats 8000000 in
theorem refRead_any (s : List UInt8) (w : World) (hs : s.length ≤ 100000) : Calls Tryd.prog 15 #[.string ⟨s.toArray⟩] w (ReadOut s w) := by
  obtain ⟨iF, hiF, hiF0, hiF1, hiF2⟩ := info_parts info9
  have hsz : (⟨s.toArray⟩ : ByteArray).size = s.length := by simp [ByteArray.size]
  have hnI : (s.length : Int) ≤ 100000 := by omega
  obtain ⟨w1, hw1⟩ : ∃ w1, w.alloc (.cells #[.string ⟨#[]⟩, .int .i64 0, .int .i64 0] 46) = w1 := ⟨_, rfl⟩
  have hx1 : SentAt w1 w.heap.size [] 0 0 := by rw [← hw1]; exact World.alloc_heap_new w _
  have hB1 : Below w.heap.size w w1 := by rw [← hw1]; exact (Below.refl _ w).alloc (Nat.le_refl _) _
  have hlt1 : w.heap.size < w1.heap.size := by rw [← hw1]; simp
  have HX1 := Lib.hid hx1
  have HB1 := Lib.hid hB1
  go_enter Tryd.func15, Tryd.ntmps15
  go_upto_region 1 with (fail)
  clear hx1 hB1 hw1
  go_wp2
  go_loopw [3, 4, 5] (fun u f i wr => ∃ (p q : Nat) (ws : List (List UInt8)), p ≤ s.length + 1 ∧ q ≤ s.length + 1 ∧ f = .int .i64 p ∧ i = .int .i64 q ∧ Hid (RowW w1 u ws wr) ∧ Hid (Rt.WI s p q ws)) (fun _ _ i _ => s.length + 1 - (intOf i).toNat)
  case atStart => exact ⟨0, 0, [], by omega, by omega, rfl, rfl, Lib.hid (RowW.none (Below.refl _ _)), Lib.hid (Rt.WI.start s)⟩
  case round =>
    obtain ⟨p, q, ws, hp, hq, rfl, rfl, HQ, HI⟩ := hrel
    have hzr := HQ.out.2.size
    have q0 : (0 : Int) ≤ (q : Int) := by omega
    have hlo : ws.length ≤ 100001 := by have := HI.out.2.1; omega
    by_cases hlt : q < s.length
    · have k1 : (q : Int) < (s.length : Int) := by omega
      have hpq := HI.out.mid (by omega)
      have hne : ((q : Int) == (s.length : Int)) = false := by rw [beq_eq_false_iff_ne]; omega
      obtain ⟨c, hc⟩ : ∃ c, s.getD q 0 = c := ⟨_, rfl⟩
      obtain ⟨y, hy⟩ : ∃ y, (c.toNat : Int) = y := ⟨_, rfl⟩
      have hix : ∀ W : World, (Instr.index 9 (.string ⟨s.toArray⟩) (.int .i64 (q : Int))).run Tryd.prog W = .ok (.int .u8 y) W := fun W => by
        have := idx_at s q hlt W
        rw [hc, hy] at this
        exact this
      by_cases h32 : c = 32
      · obtain rfl : y = 32 := by rw [← hy, h32]; rfl
        have HJ := Lib.hid (HI.out.cut hlt (hc.trans h32))
        have HXX := Lib.hid (sub_str s p q hpq (by omega))
        obtain ⟨x, hx⟩ : ∃ x, (s.take q).drop p = x := ⟨_, rfl⟩
        rw [hx] at HJ HXX
        have hpI : (p : Int) ≤ (q : Int) := by omega
        clear hx hc hy h32
        go_wp2_with (at_builtin; refine wpList_append_own _ rfl (.tmp 24) (.tmp 29) 37 rfl w1.heap.size 9 iF _ 1 16 Tryd.underlying37 hiF hiF0 hiF1 hiF2 rfl (by decide) _ _ _ rfl (HQ.out.1.alloc _) ⟨wr.heap.size, 0, none⟩ 1 1 [.string ((⟨s.toArray⟩ : ByteArray).extract p q)] rfl rfl (one_news _ _ rfl _ _) (by simp [Value.oneCell']) (by unfold maxLen; omega) (by omega) (by simp; omega) ?_; intro v1 w2 hown hgrow _; rw [HXX.out] at hown hgrow; have HR1 := Lib.hid (HQ.out.append hown hgrow); have hzw1 := HR1.out.2.size; clear hown hgrow)
        go_roundw
        case rel => exact ⟨q + 1, q + 1, ws ++ [x], by omega, by omega, by go_num, by go_num, HR1, HJ⟩
        case measure => simp [intOf]; omega
      · have HJ := Lib.hid (HI.out.skip hlt (fun e => h32 (hc.symm.trans e)))
        have hy32 : y ≠ 32 := fun e => h32 (UInt8.toNat_inj.1 (show c.toNat = 32 by omega))
        have hcc : (y == 32) = false := by rw [beq_eq_false_iff_ne]; exact hy32
        clear hc hy h32
        go_wp2_with fail
        go_roundw
        case rel => exact ⟨p, q + 1, ws, by omega, by omega, rfl, by go_num, HQ, HJ⟩
        case measure => simp [intOf]; omega
    · by_cases he : q = s.length
      · subst he
        have hpq := HI.out.mid (Nat.le_refl _)
        have HJ := Lib.hid (HI.out.last)
        have HXX := Lib.hid (sub_str s p s.length hpq (Nat.le_refl _))
        obtain ⟨x, hx⟩ : ∃ x, (s.take s.length).drop p = x := ⟨_, rfl⟩
        rw [hx] at HJ HXX
        have hpI : (p : Int) ≤ (s.length : Int) := by omega
        clear hx
        go_wp2_with (at_builtin; refine wpList_append_own _ rfl (.tmp 24) (.tmp 29) 37 rfl w1.heap.size 9 iF _ 1 16 Tryd.underlying37 hiF hiF0 hiF1 hiF2 rfl (by decide) _ _ _ rfl (HQ.out.1.alloc _) ⟨wr.heap.size, 0, none⟩ 1 1 [.string ((⟨s.toArray⟩ : ByteArray).extract p s.length)] rfl rfl (one_news _ _ rfl _ _) (by simp [Value.oneCell']) (by unfold maxLen; omega) (by omega) (by simp; omega) ?_; intro v1 w2 hown hgrow _; rw [HXX.out] at hown hgrow; have HR1 := Lib.hid (HQ.out.append hown hgrow); have hzw1 := HR1.out.2.size; clear hown hgrow)
        go_roundw
        case rel => exact ⟨s.length + 1, s.length + 1, ws ++ [x], by omega, by omega, by go_num, by go_num, HR1, HJ⟩
        case measure => simp [intOf]
      · obtain rfl : q = s.length + 1 := by omega
        have hw := HI.out.2.2.2 rfl
        have hwl := HI.out.1
        obtain ⟨aw, cw, rfl, hwd, -⟩ := wds_of_row HQ.out.1 (fun x hx => by have := hwl x hx; omega)
        have HB2 := Lib.hid (HB1.out.trans (HQ.out.2.mono HB1.out.size))
        have HX2 := Lib.hid (HX1.out.later HQ.out.2 hlt1)
        obtain ⟨r1, r2⟩ := Rt.ref_case hw.symm
        by_cases h3 : ws.length = 3
        · obtain ⟨x, y, z, rfl⟩ : ∃ x y z, ws = [x, y, z] := by
            match ws, h3 with
            | [x, y, z], _ => exact ⟨x, y, z, rfl⟩
          obtain ⟨r3, r4, r5⟩ := r2 x y z rfl
          obtain ⟨b, off, rfl, hbl, hc⟩ := hwd.get (by simp)
          have g0 := hc 0 (by simp)
          have g1 := hc 1 (by simp)
          have g2 := hc 2 (by simp)
          have hlx := hwl x (by simp)
          have hly := hwl y (by simp)
          have hlz := hwl z (by simp)
          simp only [Nat.add_zero, List.getD_cons_zero, List.getD_cons_succ] at g0 g1 g2
          have HR3 := Lib.hid r3
          have HR4 := Lib.hid r4
          have HR5 := Lib.hid r5
          have hc3 := hwd.1
          simp only [List.length_cons, List.length_nil] at hc3
          have hcw := hwd.2.1
          clear hw hwl hwd HI r1 r2 r3 r4 r5 HQ hc h3
          by_cases hx0 : x = [77, 79, 86, 69, 68] ∨ x = [65, 83, 75]
          · rcases hx0 with hxm | hxm
            · have hxa : (x == [77, 79, 86, 69, 68]) = true := by rw [hxm]; rfl
              have hx0 : x = Rt.mvd ∨ x = Rt.ask := .inl hxm
              clear hxm
              obtain ⟨n0, o0, hn0⟩ : ∃ n o, Tx.numS y = (n, o) := ⟨_, _, rfl⟩
              obtain ⟨n1, o1, hn1⟩ : ∃ n o, Tx.numS z = (n, o) := ⟨_, _, rfl⟩
              have HN0 : Hid (∀ W, Calls Tryd.prog 35 #[.string ⟨y.toArray⟩] W fun e w2 => e = .returned (.agg #[.int .i64 n0, .bool o0]) ∧ Below W.heap.size W w2) := Lib.hid fun W => by have h := refNum_any y W (by omega); unfold NumOut at h; rw [hn0] at h; exact h
              have HN1 : Hid (∀ W, Calls Tryd.prog 35 #[.string ⟨z.toArray⟩] W fun e w2 => e = .returned (.agg #[.int .i64 n1, .bool o1]) ∧ Below W.heap.size W w2) := Lib.hid fun W => by have h := refNum_any z W (by omega); unfold NumOut at h; rw [hn1] at h; exact h
              rw [hn0, hn1] at HR4 HR5
              have hnb0 : n0 = 0 ∨ (-9223372036854775808 ≤ n0 ∧ n0 ≤ 9223372036854775807) := by cases o0 with | true => exact .inr (Tx.num_is hn0).2 | false => exact .inl (congrArg Prod.fst (hn0.symm.trans (Tx.num_no (by rw [hn0]))))
              have hnb1 : n1 = 0 ∨ (-9223372036854775808 ≤ n1 ∧ n1 ≤ 9223372036854775807) := by cases o1 with | true => exact .inr (Tx.num_is hn1).2 | false => exact .inl (congrArg Prod.fst (hn1.symm.trans (Tx.num_no (by rw [hn1]))))
              have HC0 := Lib.hid g0
              have hbb : b < wr.heap.size := hbl
              have HS0 : wr.drew.cell? ⟨b, off + 1, none⟩ = some (.string ⟨y.toArray⟩) ∧ wr.drew.cell? ⟨b, off + 2, none⟩ = some (.string ⟨z.toArray⟩) := ⟨(World.cell?_drew _ _).trans g1, (World.cell?_drew _ _).trans g2⟩
              have HB0 := Lib.hid ((Below.refl wr.heap.size wr).drew)
              have HRW := Lib.hid hx0
              clear hn0 hn1 hx0 HR3
              go_upto_region 11 with (fail)
              clear g0 g1 g2
              go_cut [6, 7] (fun p q W1 => MetR wr n0 o0 n1 o1 p q W1)
              case first =>
                refine wp_region_L (S := fun W => W.cell? ⟨b, off + 1, none⟩ = some (.string ⟨y.toArray⟩) ∧ W.cell? ⟨b, off + 2, none⟩ = some (.string ⟨z.toArray⟩)) (f := 11) (by kernel_rfl) ?_
                refine wpAnyL_take (i := 0) (some 49) (v := .slice (some ⟨b, off, none⟩) 3 cw) rfl rfl (by kernel_rfl) (by kernel_rfl) (by kernel_rfl) (by kernel_rfl) (fun _ _ _ h => h) (by rfl) (fun W hS => ?_) HS0 ?_
                · obtain ⟨m0, m1⟩ := hS
                  go_simp
                try simp only [Act.put, List.setIfInBounds_toArray, List.set_cons_zero, List.set_cons_succ]
                refine wpAnyL_take (i := 1) (some 50) (v := .pointer (some ⟨b, off + 1, none⟩)) rfl rfl (by kernel_rfl) (by kernel_rfl) (by kernel_rfl) (by kernel_rfl) (fun _ _ _ h => h) (by rfl) (fun W hS => ?_) HS0 ?_
                · obtain ⟨m0, m1⟩ := hS
                  go_simp
                try simp only [Act.put, List.setIfInBounds_toArray, List.set_cons_zero, List.set_cons_succ]
                refine wpAnyL_take (i := 2) (some 51) (v := .string ⟨y.toArray⟩) rfl rfl (by kernel_rfl) (by kernel_rfl) (by kernel_rfl) (by kernel_rfl) (fun _ _ _ h => h) (by rfl) (fun W hS => ?_) HS0 ?_
                · obtain ⟨m0, m1⟩ := hS
                  go_simp
                try simp only [Act.put, List.setIfInBounds_toArray, List.set_cons_zero, List.set_cons_succ]
                refine wpAnyL_take (i := 4) (some 53) (v := .slice (some ⟨b, off, none⟩) 3 cw) rfl rfl (by kernel_rfl) (by kernel_rfl) (by kernel_rfl) (by kernel_rfl) (fun _ _ _ h => h) (by rfl) (fun W hS => ?_) HS0 ?_
                · obtain ⟨m0, m1⟩ := hS
                  go_simp
                try simp only [Act.put, List.setIfInBounds_toArray, List.set_cons_zero, List.set_cons_succ]
                refine wpAnyL_take (i := 5) (some 54) (v := .pointer (some ⟨b, off + 2, none⟩)) rfl rfl (by kernel_rfl) (by kernel_rfl) (by kernel_rfl) (by kernel_rfl) (fun _ _ _ h => h) (by rfl) (fun W hS => ?_) HS0 ?_
                · obtain ⟨m0, m1⟩ := hS
                  go_simp
                try simp only [Act.put, List.setIfInBounds_toArray, List.set_cons_zero, List.set_cons_succ]
                refine wpAnyL_take (i := 6) (some 55) (v := .string ⟨z.toArray⟩) rfl rfl (by kernel_rfl) (by kernel_rfl) (by kernel_rfl) (by kernel_rfl) (fun _ _ _ h => h) (by rfl) (fun W hS => ?_) HS0 ?_
                · obtain ⟨m0, m1⟩ := hS
                  go_simp
                try simp only [Act.put, List.setIfInBounds_toArray, List.set_cons_zero, List.set_cons_succ]
                refine wpAnyL_three (i := 3) (j := 8) (l := 9) (by kernel_rfl) rfl rfl rfl (by rfl) (by rfl) (by rfl) (fun K hK => ?_) (fun K hK => ?_) (fun K hK => ?_) 
                · go_simp
                  with_reducible refine (HN0.out _).mono ?_
                  rintro e v1 ⟨rfl, hb⟩
                  have HS1 := two_next HS0 hb
                  have HB1 := Lib.hid (HB0.out.trans (hb.mono HB0.out.size))
                  clear hb
                  refine hK _ _ (fun _ => HS1) ?_
                  clear hK K
                  try simp only [Act.put, List.setIfInBounds_toArray, List.set_cons_zero, List.set_cons_succ]
                  refine wpAnyL_three (i := 7) (j := 8) (l := 9) (by kernel_rfl) rfl rfl rfl (by rfl) (by rfl) (by rfl) (fun K hK => ?_) (fun K hK => ?_) (fun K hK => ?_) 
                  · go_simp
                    with_reducible refine (HN1.out _).mono ?_
                    rintro e v2 ⟨rfl, hb⟩
                    have HS2 := two_next HS1 hb
                    have HB2 := Lib.hid (HB1.out.trans (hb.mono HB1.out.size))
                    clear hb
                    refine hK _ _ (fun _ => HS2) ?_
                    clear hK K
                    try simp only [Act.put, List.setIfInBounds_toArray, List.set_cons_zero, List.set_cons_succ]
                    refine wpAnyL_two (i := 8) (j := 9) (by kernel_rfl) rfl rfl (by rfl) (by rfl) (fun K hK => ?_) (fun K hK => ?_) 
                    · refine oper_wp_val (v := .pointer (some ⟨v2.heap.size, 0, none⟩)) (w' := v2.alloc (.cells #[.int .i64 0, .bool false] 93)) (by go_simp) ?_
                      have hba : Below v2.heap.size v2 (v2.alloc (.cells #[.int .i64 0, .bool false] 93)) := (Below.refl _ _).alloc (Nat.le_refl _) _
                      have HS3 := two_next HS2 hba
                      have HX3_6 := Lib.hid (Box2.new v2 93 (.int .i64 0) (.bool false))
                      have HB3 := Lib.hid (HB2.out.trans (hba.mono HB2.out.size))
                      have hl3 : wr.heap.size ≤ v2.heap.size := HB2.out.size
                      obtain ⟨g3, hg3⟩ : ∃ g, v2.heap.size = g := ⟨_, rfl⟩
                      obtain ⟨v3, hv3⟩ : ∃ v, v2.alloc (.cells #[.int .i64 0, .bool false] 93) = v := ⟨_, rfl⟩
                      rw [hv3] at HS3 HB3 HX3_6 ⊢
                      rw [hg3] at HX3_6 hl3 ⊢
                      clear hba hg3 hv3
                      refine hK _ _ (fun _ => HS3) ?_
                      clear hK K
                      try simp only [Act.put, List.setIfInBounds_toArray, List.set_cons_zero, List.set_cons_succ]
                      refine wpAnyL_one (j := 9) (by kernel_rfl) rfl (by rfl) (fun K hK => ?_) 
                      refine oper_wp_val (v := .pointer (some ⟨v3.heap.size, 0, none⟩)) (w' := v3.alloc (.cells #[.int .i64 0, .bool false] 93)) (by go_simp) ?_
                      have hba : Below v3.heap.size v3 (v3.alloc (.cells #[.int .i64 0, .bool false] 93)) := (Below.refl _ _).alloc (Nat.le_refl _) _
                      have HS4 := two_next HS3 hba
                      have HX4_6 := Lib.hid (HX3_6.out.later hba)
                      have HX4_7 := Lib.hid (Box2.new v3 93 (.int .i64 0) (.bool false))
                      have HB4 := Lib.hid (HB3.out.trans (hba.mono HB3.out.size))
                      have hl4 : wr.heap.size ≤ v3.heap.size := HB3.out.size
                      have hq4_6 : g3 < v3.heap.size := (Array.getElem?_eq_some_iff.1 HX3_6.out).1
                      obtain ⟨g4, hg4⟩ : ∃ g, v3.heap.size = g := ⟨_, rfl⟩
                      obtain ⟨v4, hv4⟩ : ∃ v, v3.alloc (.cells #[.int .i64 0, .bool false] 93) = v := ⟨_, rfl⟩
                      rw [hv4] at HS4 HB4 HX4_7 HX4_6 ⊢
                      rw [hg4] at HX4_7 hl4 hq4_6 ⊢
                      clear hba hg4 hv4
                      refine hK _ _ (fun _ => HS4) ?_
                      clear hK K
                      try simp only [Act.put, List.setIfInBounds_toArray, List.set_cons_zero, List.set_cons_succ]
                      have hne : g3 ≠ g4 := by omega
                      obtain ⟨z0, z1, f0, f1⟩ := HX4_6.out.at
                      have hy := box2_set hne HX4_7.out (.int .i64 n0) (.bool o0)
                      obtain ⟨y0, y1, e0, e1⟩ := hy.at
                      have HM := Lib.hid (met_of (n0 := n0) (o0 := o0) (n1 := n1) (o1 := o1) HB4.out HX4_6.out HX4_7.out hne (by omega) (by omega))
                      have HSL := two_set HS4 hbb (show wr.heap.size ≤ g3 by omega) (.int .i64 n0) (.bool o0)
                      clear hy
                      refine wpAnyL_one (j := 10) (by kernel_rfl) rfl (by rfl) (fun K hK => ?_)
                      go_simp
                      refine hK _ _ (fun _ => HSL) ?_
                      clear hK K
                      try simp only [Act.put, List.setIfInBounds_toArray, List.set_cons_zero, List.set_cons_succ]
                      refine wpAnyL_one (j := 11) (by kernel_rfl) rfl (by rfl) (fun K hK => ?_)
                      go_simp
                      refine hK _ _ (fun h => (h rfl).elim) ?_
                      clear hK K
                      try simp only [Act.put, List.setIfInBounds_toArray, List.set_cons_zero, List.set_cons_succ]
                      refine wpAnyL_done (by kernel_rfl) ?_ _
                      go_wp2_with fail
                      go_meet
                      case rel => exact HM.out
                    · refine oper_wp_val (v := .pointer (some ⟨v2.heap.size, 0, none⟩)) (w' := v2.alloc (.cells #[.int .i64 0, .bool false] 93)) (by go_simp) ?_
                      have hba : Below v2.heap.size v2 (v2.alloc (.cells #[.int .i64 0, .bool false] 93)) := (Below.refl _ _).alloc (Nat.le_refl _) _
                      have HS5 := two_next HS2 hba
                      have HX5_7 := Lib.hid (Box2.new v2 93 (.int .i64 0) (.bool false))
                      have HB5 := Lib.hid (HB2.out.trans (hba.mono HB2.out.size))
                      have hl5 : wr.heap.size ≤ v2.heap.size := HB2.out.size
                      obtain ⟨g5, hg5⟩ : ∃ g, v2.heap.size = g := ⟨_, rfl⟩
                      obtain ⟨v5, hv5⟩ : ∃ v, v2.alloc (.cells #[.int .i64 0, .bool false] 93) = v := ⟨_, rfl⟩
                      rw [hv5] at HS5 HB5 HX5_7 ⊢
                      rw [hg5] at HX5_7 hl5 ⊢
                      clear hba hg5 hv5
                      refine hK _ _ (fun _ => HS5) ?_
                      clear hK K
                      try simp only [Act.put, List.setIfInBounds_toArray, List.set_cons_zero, List.set_cons_succ]
                      refine wpAnyL_one (j := 8) (by kernel_rfl) rfl (by rfl) (fun K hK => ?_) 
                      refine oper_wp_val (v := .pointer (some ⟨v5.heap.size, 0, none⟩)) (w' := v5.alloc (.cells #[.int .i64 0, .bool false] 93)) (by go_simp) ?_
                      have hba : Below v5.heap.size v5 (v5.alloc (.cells #[.int .i64 0, .bool false] 93)) := (Below.refl _ _).alloc (Nat.le_refl _) _
                      have HS6 := two_next HS5 hba
                      have HX6_7 := Lib.hid (HX5_7.out.later hba)
                      have HX6_6 := Lib.hid (Box2.new v5 93 (.int .i64 0) (.bool false))
                      have HB6 := Lib.hid (HB5.out.trans (hba.mono HB5.out.size))
                      have hl6 : wr.heap.size ≤ v5.heap.size := HB5.out.size
                      have hq6_7 : g5 < v5.heap.size := (Array.getElem?_eq_some_iff.1 HX5_7.out).1
                      obtain ⟨g6, hg6⟩ : ∃ g, v5.heap.size = g := ⟨_, rfl⟩
                      obtain ⟨v6, hv6⟩ : ∃ v, v5.alloc (.cells #[.int .i64 0, .bool false] 93) = v := ⟨_, rfl⟩
                      rw [hv6] at HS6 HB6 HX6_6 HX6_7 ⊢
                      rw [hg6] at HX6_6 hl6 hq6_7 ⊢
                      clear hba hg6 hv6
                      refine hK _ _ (fun _ => HS6) ?_
                      clear hK K
                      try simp only [Act.put, List.setIfInBounds_toArray, List.set_cons_zero, List.set_cons_succ]
                      have hne : g6 ≠ g5 := by omega
                      obtain ⟨z0, z1, f0, f1⟩ := HX6_6.out.at
                      have hy := box2_set hne HX6_7.out (.int .i64 n0) (.bool o0)
                      obtain ⟨y0, y1, e0, e1⟩ := hy.at
                      have HM := Lib.hid (met_of (n0 := n0) (o0 := o0) (n1 := n1) (o1 := o1) HB6.out HX6_6.out HX6_7.out hne (by omega) (by omega))
                      have HSL := two_set HS6 hbb (show wr.heap.size ≤ g6 by omega) (.int .i64 n0) (.bool o0)
                      clear hy
                      refine wpAnyL_one (j := 10) (by kernel_rfl) rfl (by rfl) (fun K hK => ?_)
                      go_simp
                      refine hK _ _ (fun _ => HSL) ?_
                      clear hK K
                      try simp only [Act.put, List.setIfInBounds_toArray, List.set_cons_zero, List.set_cons_succ]
                      refine wpAnyL_one (j := 11) (by kernel_rfl) rfl (by rfl) (fun K hK => ?_)
                      go_simp
                      refine hK _ _ (fun h => (h rfl).elim) ?_
                      clear hK K
                      try simp only [Act.put, List.setIfInBounds_toArray, List.set_cons_zero, List.set_cons_succ]
                      refine wpAnyL_done (by kernel_rfl) ?_ _
                      go_wp2_with fail
                      go_meet
                      case rel => exact HM.out
                  · refine oper_wp_val (v := .pointer (some ⟨v1.heap.size, 0, none⟩)) (w' := v1.alloc (.cells #[.int .i64 0, .bool false] 93)) (by go_simp) ?_
                    have hba : Below v1.heap.size v1 (v1.alloc (.cells #[.int .i64 0, .bool false] 93)) := (Below.refl _ _).alloc (Nat.le_refl _) _
                    have HS7 := two_next HS1 hba
                    have HX7_6 := Lib.hid (Box2.new v1 93 (.int .i64 0) (.bool false))
                    have HB7 := Lib.hid (HB1.out.trans (hba.mono HB1.out.size))
                    have hl7 : wr.heap.size ≤ v1.heap.size := HB1.out.size
                    obtain ⟨g7, hg7⟩ : ∃ g, v1.heap.size = g := ⟨_, rfl⟩
                    obtain ⟨v7, hv7⟩ : ∃ v, v1.alloc (.cells #[.int .i64 0, .bool false] 93) = v := ⟨_, rfl⟩
                    rw [hv7] at HS7 HB7 HX7_6 ⊢
                    rw [hg7] at HX7_6 hl7 ⊢
                    clear hba hg7 hv7
                    refine hK _ _ (fun _ => HS7) ?_
                    clear hK K
                    try simp only [Act.put, List.setIfInBounds_toArray, List.set_cons_zero, List.set_cons_succ]
                    refine wpAnyL_two (i := 7) (j := 9) (by kernel_rfl) rfl rfl (by rfl) (by rfl) (fun K hK => ?_) (fun K hK => ?_) 
                    · go_simp
                      with_reducible refine (HN1.out _).mono ?_
                      rintro e v8 ⟨rfl, hb⟩
                      have HS8 := two_next HS7 hb
                      have HX8_6 := Lib.hid (HX7_6.out.later hb)
                      have HB8 := Lib.hid (HB7.out.trans (hb.mono HB7.out.size))
                      clear hb
                      refine hK _ _ (fun _ => HS8) ?_
                      clear hK K
                      try simp only [Act.put, List.setIfInBounds_toArray, List.set_cons_zero, List.set_cons_succ]
                      refine wpAnyL_one (j := 9) (by kernel_rfl) rfl (by rfl) (fun K hK => ?_) 
                      refine oper_wp_val (v := .pointer (some ⟨v8.heap.size, 0, none⟩)) (w' := v8.alloc (.cells #[.int .i64 0, .bool false] 93)) (by go_simp) ?_
                      have hba : Below v8.heap.size v8 (v8.alloc (.cells #[.int .i64 0, .bool false] 93)) := (Below.refl _ _).alloc (Nat.le_refl _) _
                      have HS9 := two_next HS8 hba
                      have HX9_6 := Lib.hid (HX8_6.out.later hba)
                      have HX9_7 := Lib.hid (Box2.new v8 93 (.int .i64 0) (.bool false))
                      have HB9 := Lib.hid (HB8.out.trans (hba.mono HB8.out.size))
                      have hl9 : wr.heap.size ≤ v8.heap.size := HB8.out.size
                      have hq9_6 : g7 < v8.heap.size := (Array.getElem?_eq_some_iff.1 HX8_6.out).1
                      obtain ⟨g9, hg9⟩ : ∃ g, v8.heap.size = g := ⟨_, rfl⟩
                      obtain ⟨v9, hv9⟩ : ∃ v, v8.alloc (.cells #[.int .i64 0, .bool false] 93) = v := ⟨_, rfl⟩
                      rw [hv9] at HS9 HB9 HX9_7 HX9_6 ⊢
                      rw [hg9] at HX9_7 hl9 hq9_6 ⊢
                      clear hba hg9 hv9
                      refine hK _ _ (fun _ => HS9) ?_
                      clear hK K
                      try simp only [Act.put, List.setIfInBounds_toArray, List.set_cons_zero, List.set_cons_succ]
                      have hne : g7 ≠ g9 := by omega
                      obtain ⟨z0, z1, f0, f1⟩ := HX9_6.out.at
                      have hy := box2_set hne HX9_7.out (.int .i64 n0) (.bool o0)
                      obtain ⟨y0, y1, e0, e1⟩ := hy.at
                      have HM := Lib.hid (met_of (n0 := n0) (o0 := o0) (n1 := n1) (o1 := o1) HB9.out HX9_6.out HX9_7.out hne (by omega) (by omega))
                      have HSL := two_set HS9 hbb (show wr.heap.size ≤ g7 by omega) (.int .i64 n0) (.bool o0)
                      clear hy
                      refine wpAnyL_one (j := 10) (by kernel_rfl) rfl (by rfl) (fun K hK => ?_)
                      go_simp
                      refine hK _ _ (fun _ => HSL) ?_
                      clear hK K
                      try simp only [Act.put, List.setIfInBounds_toArray, List.set_cons_zero, List.set_cons_succ]
                      refine wpAnyL_one (j := 11) (by kernel_rfl) rfl (by rfl) (fun K hK => ?_)
                      go_simp
                      refine hK _ _ (fun h => (h rfl).elim) ?_
                      clear hK K
                      try simp only [Act.put, List.setIfInBounds_toArray, List.set_cons_zero, List.set_cons_succ]
                      refine wpAnyL_done (by kernel_rfl) ?_ _
                      go_wp2_with fail
                      go_meet
                      case rel => exact HM.out
                    · refine oper_wp_val (v := .pointer (some ⟨v7.heap.size, 0, none⟩)) (w' := v7.alloc (.cells #[.int .i64 0, .bool false] 93)) (by go_simp) ?_
                      have hba : Below v7.heap.size v7 (v7.alloc (.cells #[.int .i64 0, .bool false] 93)) := (Below.refl _ _).alloc (Nat.le_refl _) _
                      have HS10 := two_next HS7 hba
                      have HX10_6 := Lib.hid (HX7_6.out.later hba)
                      have HX10_7 := Lib.hid (Box2.new v7 93 (.int .i64 0) (.bool false))
                      have HB10 := Lib.hid (HB7.out.trans (hba.mono HB7.out.size))
                      have hl10 : wr.heap.size ≤ v7.heap.size := HB7.out.size
                      have hq10_6 : g7 < v7.heap.size := (Array.getElem?_eq_some_iff.1 HX7_6.out).1
                      obtain ⟨g10, hg10⟩ : ∃ g, v7.heap.size = g := ⟨_, rfl⟩
                      obtain ⟨v10, hv10⟩ : ∃ v, v7.alloc (.cells #[.int .i64 0, .bool false] 93) = v := ⟨_, rfl⟩
                      rw [hv10] at HS10 HB10 HX10_7 HX10_6 ⊢
                      rw [hg10] at HX10_7 hl10 hq10_6 ⊢
                      clear hba hg10 hv10
                      refine hK _ _ (fun _ => HS10) ?_
                      clear hK K
                      try simp only [Act.put, List.setIfInBounds_toArray, List.set_cons_zero, List.set_cons_succ]
                      refine wpAnyL_one (j := 7) (by kernel_rfl) rfl (by rfl) (fun K hK => ?_) 
                      go_simp
                      with_reducible refine (HN1.out _).mono ?_
                      rintro e v11 ⟨rfl, hb⟩
                      have HS11 := two_next HS10 hb
                      have HX11_6 := Lib.hid (HX10_6.out.later hb)
                      have HX11_7 := Lib.hid (HX10_7.out.later hb)
                      have HB11 := Lib.hid (HB10.out.trans (hb.mono HB10.out.size))
                      clear hb
                      refine hK _ _ (fun _ => HS11) ?_
                      clear hK K
                      try simp only [Act.put, List.setIfInBounds_toArray, List.set_cons_zero, List.set_cons_succ]
                      have hne : g7 ≠ g10 := by omega
                      obtain ⟨z0, z1, f0, f1⟩ := HX11_6.out.at
                      have hy := box2_set hne HX11_7.out (.int .i64 n0) (.bool o0)
                      obtain ⟨y0, y1, e0, e1⟩ := hy.at
                      have HM := Lib.hid (met_of (n0 := n0) (o0 := o0) (n1 := n1) (o1 := o1) HB11.out HX11_6.out HX11_7.out hne (by omega) (by omega))
                      have HSL := two_set HS11 hbb (show wr.heap.size ≤ g7 by omega) (.int .i64 n0) (.bool o0)
                      clear hy
                      refine wpAnyL_one (j := 10) (by kernel_rfl) rfl (by rfl) (fun K hK => ?_)
                      go_simp
                      refine hK _ _ (fun _ => HSL) ?_
                      clear hK K
                      try simp only [Act.put, List.setIfInBounds_toArray, List.set_cons_zero, List.set_cons_succ]
                      refine wpAnyL_one (j := 11) (by kernel_rfl) rfl (by rfl) (fun K hK => ?_)
                      go_simp
                      refine hK _ _ (fun h => (h rfl).elim) ?_
                      clear hK K
                      try simp only [Act.put, List.setIfInBounds_toArray, List.set_cons_zero, List.set_cons_succ]
                      refine wpAnyL_done (by kernel_rfl) ?_ _
                      go_wp2_with fail
                      go_meet
                      case rel => exact HM.out
                  · refine oper_wp_val (v := .pointer (some ⟨v1.heap.size, 0, none⟩)) (w' := v1.alloc (.cells #[.int .i64 0, .bool false] 93)) (by go_simp) ?_
                    have hba : Below v1.heap.size v1 (v1.alloc (.cells #[.int .i64 0, .bool false] 93)) := (Below.refl _ _).alloc (Nat.le_refl _) _
                    have HS12 := two_next HS1 hba
                    have HX12_7 := Lib.hid (Box2.new v1 93 (.int .i64 0) (.bool false))
                    have HB12 := Lib.hid (HB1.out.trans (hba.mono HB1.out.size))
                    have hl12 : wr.heap.size ≤ v1.heap.size := HB1.out.size
                    obtain ⟨g12, hg12⟩ : ∃ g, v1.heap.size = g := ⟨_, rfl⟩
                    obtain ⟨v12, hv12⟩ : ∃ v, v1.alloc (.cells #[.int .i64 0, .bool false] 93) = v := ⟨_, rfl⟩
                    rw [hv12] at HS12 HB12 HX12_7 ⊢
                    rw [hg12] at HX12_7 hl12 ⊢
                    clear hba hg12 hv12
                    refine hK _ _ (fun _ => HS12) ?_
                    clear hK K
                    try simp only [Act.put, List.setIfInBounds_toArray, List.set_cons_zero, List.set_cons_succ]
                    refine wpAnyL_two (i := 7) (j := 8) (by kernel_rfl) rfl rfl (by rfl) (by rfl) (fun K hK => ?_) (fun K hK => ?_) 
                    · go_simp
                      with_reducible refine (HN1.out _).mono ?_
                      rintro e v13 ⟨rfl, hb⟩
                      have HS13 := two_next HS12 hb
                      have HX13_7 := Lib.hid (HX12_7.out.later hb)
                      have HB13 := Lib.hid (HB12.out.trans (hb.mono HB12.out.size))
                      clear hb
                      refine hK _ _ (fun _ => HS13) ?_
                      clear hK K
                      try simp only [Act.put, List.setIfInBounds_toArray, List.set_cons_zero, List.set_cons_succ]
                      refine wpAnyL_one (j := 8) (by kernel_rfl) rfl (by rfl) (fun K hK => ?_) 
                      refine oper_wp_val (v := .pointer (some ⟨v13.heap.size, 0, none⟩)) (w' := v13.alloc (.cells #[.int .i64 0, .bool false] 93)) (by go_simp) ?_
                      have hba : Below v13.heap.size v13 (v13.alloc (.cells #[.int .i64 0, .bool false] 93)) := (Below.refl _ _).alloc (Nat.le_refl _) _
                      have HS14 := two_next HS13 hba
                      have HX14_7 := Lib.hid (HX13_7.out.later hba)
                      have HX14_6 := Lib.hid (Box2.new v13 93 (.int .i64 0) (.bool false))
                      have HB14 := Lib.hid (HB13.out.trans (hba.mono HB13.out.size))
                      have hl14 : wr.heap.size ≤ v13.heap.size := HB13.out.size
                      have hq14_7 : g12 < v13.heap.size := (Array.getElem?_eq_some_iff.1 HX13_7.out).1
                      obtain ⟨g14, hg14⟩ : ∃ g, v13.heap.size = g := ⟨_, rfl⟩
                      obtain ⟨v14, hv14⟩ : ∃ v, v13.alloc (.cells #[.int .i64 0, .bool false] 93) = v := ⟨_, rfl⟩
                      rw [hv14] at HS14 HB14 HX14_6 HX14_7 ⊢
                      rw [hg14] at HX14_6 hl14 hq14_7 ⊢
                      clear hba hg14 hv14
                      refine hK _ _ (fun _ => HS14) ?_
                      clear hK K
                      try simp only [Act.put, List.setIfInBounds_toArray, List.set_cons_zero, List.set_cons_succ]
                      have hne : g14 ≠ g12 := by omega
                      obtain ⟨z0, z1, f0, f1⟩ := HX14_6.out.at
                      have hy := box2_set hne HX14_7.out (.int .i64 n0) (.bool o0)
                      obtain ⟨y0, y1, e0, e1⟩ := hy.at
                      have HM := Lib.hid (met_of (n0 := n0) (o0 := o0) (n1 := n1) (o1 := o1) HB14.out HX14_6.out HX14_7.out hne (by omega) (by omega))
                      have HSL := two_set HS14 hbb (show wr.heap.size ≤ g14 by omega) (.int .i64 n0) (.bool o0)
                      clear hy
                      refine wpAnyL_one (j := 10) (by kernel_rfl) rfl (by rfl) (fun K hK => ?_)
                      go_simp
                      refine hK _ _ (fun _ => HSL) ?_
                      clear hK K
                      try simp only [Act.put, List.setIfInBounds_toArray, List.set_cons_zero, List.set_cons_succ]
                      refine wpAnyL_one (j := 11) (by kernel_rfl) rfl (by rfl) (fun K hK => ?_)
                      go_simp
                      refine hK _ _ (fun h => (h rfl).elim) ?_
                      clear hK K
                      try simp only [Act.put, List.setIfInBounds_toArray, List.set_cons_zero, List.set_cons_succ]
                      refine wpAnyL_done (by kernel_rfl) ?_ _
                      go_wp2_with fail
                      go_meet
                      case rel => exact HM.out
                    · refine oper_wp_val (v := .pointer (some ⟨v12.heap.size, 0, none⟩)) (w' := v12.alloc (.cells #[.int .i64 0, .bool false] 93)) (by go_simp) ?_
                      have hba : Below v12.heap.size v12 (v12.alloc (.cells #[.int .i64 0, .bool false] 93)) := (Below.refl _ _).alloc (Nat.le_refl _) _
                      have HS15 := two_next HS12 hba
                      have HX15_7 := Lib.hid (HX12_7.out.later hba)
                      have HX15_6 := Lib.hid (Box2.new v12 93 (.int .i64 0) (.bool false))
                      have HB15 := Lib.hid (HB12.out.trans (hba.mono HB12.out.size))
                      have hl15 : wr.heap.size ≤ v12.heap.size := HB12.out.size
                      have hq15_7 : g12 < v12.heap.size := (Array.getElem?_eq_some_iff.1 HX12_7.out).1
                      obtain ⟨g15, hg15⟩ : ∃ g, v12.heap.size = g := ⟨_, rfl⟩
                      obtain ⟨v15, hv15⟩ : ∃ v, v12.alloc (.cells #[.int .i64 0, .bool false] 93) = v := ⟨_, rfl⟩
                      rw [hv15] at HS15 HB15 HX15_6 HX15_7 ⊢
                      rw [hg15] at HX15_6 hl15 hq15_7 ⊢
                      clear hba hg15 hv15
                      refine hK _ _ (fun _ => HS15) ?_
                      clear hK K
                      try simp only [Act.put, List.setIfInBounds_toArray, List.set_cons_zero, List.set_cons_succ]
                      refine wpAnyL_one (j := 7) (by kernel_rfl) rfl (by rfl) (fun K hK => ?_) 
                      go_simp
                      with_reducible refine (HN1.out _).mono ?_
                      rintro e v16 ⟨rfl, hb⟩
                      have HS16 := two_next HS15 hb
                      have HX16_7 := Lib.hid (HX15_7.out.later hb)
                      have HX16_6 := Lib.hid (HX15_6.out.later hb)
                      have HB16 := Lib.hid (HB15.out.trans (hb.mono HB15.out.size))
                      clear hb
                      refine hK _ _ (fun _ => HS16) ?_
                      clear hK K
                      try simp only [Act.put, List.setIfInBounds_toArray, List.set_cons_zero, List.set_cons_succ]
                      have hne : g15 ≠ g12 := by omega
                      obtain ⟨z0, z1, f0, f1⟩ := HX16_6.out.at
                      have hy := box2_set hne HX16_7.out (.int .i64 n0) (.bool o0)
                      obtain ⟨y0, y1, e0, e1⟩ := hy.at
                      have HM := Lib.hid (met_of (n0 := n0) (o0 := o0) (n1 := n1) (o1 := o1) HB16.out HX16_6.out HX16_7.out hne (by omega) (by omega))
                      have HSL := two_set HS16 hbb (show wr.heap.size ≤ g15 by omega) (.int .i64 n0) (.bool o0)
                      clear hy
                      refine wpAnyL_one (j := 10) (by kernel_rfl) rfl (by rfl) (fun K hK => ?_)
                      go_simp
                      refine hK _ _ (fun _ => HSL) ?_
                      clear hK K
                      try simp only [Act.put, List.setIfInBounds_toArray, List.set_cons_zero, List.set_cons_succ]
                      refine wpAnyL_one (j := 11) (by kernel_rfl) rfl (by rfl) (fun K hK => ?_)
                      go_simp
                      refine hK _ _ (fun h => (h rfl).elim) ?_
                      clear hK K
                      try simp only [Act.put, List.setIfInBounds_toArray, List.set_cons_zero, List.set_cons_succ]
                      refine wpAnyL_done (by kernel_rfl) ?_ _
                      go_wp2_with fail
                      go_meet
                      case rel => exact HM.out
                · refine oper_wp_val (v := .pointer (some ⟨wr.drew.heap.size, 0, none⟩)) (w' := wr.drew.alloc (.cells #[.int .i64 0, .bool false] 93)) (by go_simp) ?_
                  have hba : Below wr.drew.heap.size wr.drew (wr.drew.alloc (.cells #[.int .i64 0, .bool false] 93)) := (Below.refl _ _).alloc (Nat.le_refl _) _
                  have HS17 := two_next HS0 hba
                  have HX17_6 := Lib.hid (Box2.new wr.drew 93 (.int .i64 0) (.bool false))
                  have HB17 := Lib.hid (HB0.out.trans (hba.mono HB0.out.size))
                  have hl17 : wr.heap.size ≤ wr.drew.heap.size := HB0.out.size
                  obtain ⟨g17, hg17⟩ : ∃ g, wr.drew.heap.size = g := ⟨_, rfl⟩
                  obtain ⟨v17, hv17⟩ : ∃ v, wr.drew.alloc (.cells #[.int .i64 0, .bool false] 93) = v := ⟨_, rfl⟩
                  rw [hv17] at HS17 HB17 HX17_6 ⊢
                  rw [hg17] at HX17_6 hl17 ⊢
                  clear hba hg17 hv17
                  refine hK _ _ (fun _ => HS17) ?_
                  clear hK K
                  try simp only [Act.put, List.setIfInBounds_toArray, List.set_cons_zero, List.set_cons_succ]
                  refine wpAnyL_two (i := 3) (j := 9) (by kernel_rfl) rfl rfl (by rfl) (by rfl) (fun K hK => ?_) (fun K hK => ?_) 
                  · go_simp
                    with_reducible refine (HN0.out _).mono ?_
                    rintro e v18 ⟨rfl, hb⟩
                    have HS18 := two_next HS17 hb
                    have HX18_6 := Lib.hid (HX17_6.out.later hb)
                    have HB18 := Lib.hid (HB17.out.trans (hb.mono HB17.out.size))
                    clear hb
                    refine hK _ _ (fun _ => HS18) ?_
                    clear hK K
                    try simp only [Act.put, List.setIfInBounds_toArray, List.set_cons_zero, List.set_cons_succ]
                    refine wpAnyL_two (i := 7) (j := 9) (by kernel_rfl) rfl rfl (by rfl) (by rfl) (fun K hK => ?_) (fun K hK => ?_) 
                    · go_simp
                      with_reducible refine (HN1.out _).mono ?_
                      rintro e v19 ⟨rfl, hb⟩
                      have HS19 := two_next HS18 hb
                      have HX19_6 := Lib.hid (HX18_6.out.later hb)
                      have HB19 := Lib.hid (HB18.out.trans (hb.mono HB18.out.size))
                      clear hb
                      refine hK _ _ (fun _ => HS19) ?_
                      clear hK K
                      try simp only [Act.put, List.setIfInBounds_toArray, List.set_cons_zero, List.set_cons_succ]
                      refine wpAnyL_one (j := 9) (by kernel_rfl) rfl (by rfl) (fun K hK => ?_) 
                      refine oper_wp_val (v := .pointer (some ⟨v19.heap.size, 0, none⟩)) (w' := v19.alloc (.cells #[.int .i64 0, .bool false] 93)) (by go_simp) ?_
                      have hba : Below v19.heap.size v19 (v19.alloc (.cells #[.int .i64 0, .bool false] 93)) := (Below.refl _ _).alloc (Nat.le_refl _) _
                      have HS20 := two_next HS19 hba
                      have HX20_6 := Lib.hid (HX19_6.out.later hba)
                      have HX20_7 := Lib.hid (Box2.new v19 93 (.int .i64 0) (.bool false))
                      have HB20 := Lib.hid (HB19.out.trans (hba.mono HB19.out.size))
                      have hl20 : wr.heap.size ≤ v19.heap.size := HB19.out.size
                      have hq20_6 : g17 < v19.heap.size := (Array.getElem?_eq_some_iff.1 HX19_6.out).1
                      obtain ⟨g20, hg20⟩ : ∃ g, v19.heap.size = g := ⟨_, rfl⟩
                      obtain ⟨v20, hv20⟩ : ∃ v, v19.alloc (.cells #[.int .i64 0, .bool false] 93) = v := ⟨_, rfl⟩
                      rw [hv20] at HS20 HB20 HX20_7 HX20_6 ⊢
                      rw [hg20] at HX20_7 hl20 hq20_6 ⊢
                      clear hba hg20 hv20
                      refine hK _ _ (fun _ => HS20) ?_
                      clear hK K
                      try simp only [Act.put, List.setIfInBounds_toArray, List.set_cons_zero, List.set_cons_succ]
                      have hne : g17 ≠ g20 := by omega
                      obtain ⟨z0, z1, f0, f1⟩ := HX20_6.out.at
                      have hy := box2_set hne HX20_7.out (.int .i64 n0) (.bool o0)
                      obtain ⟨y0, y1, e0, e1⟩ := hy.at
                      have HM := Lib.hid (met_of (n0 := n0) (o0 := o0) (n1 := n1) (o1 := o1) HB20.out HX20_6.out HX20_7.out hne (by omega) (by omega))
                      have HSL := two_set HS20 hbb (show wr.heap.size ≤ g17 by omega) (.int .i64 n0) (.bool o0)
                      clear hy
                      refine wpAnyL_one (j := 10) (by kernel_rfl) rfl (by rfl) (fun K hK => ?_)
                      go_simp
                      refine hK _ _ (fun _ => HSL) ?_
                      clear hK K
                      try simp only [Act.put, List.setIfInBounds_toArray, List.set_cons_zero, List.set_cons_succ]
                      refine wpAnyL_one (j := 11) (by kernel_rfl) rfl (by rfl) (fun K hK => ?_)
                      go_simp
                      refine hK _ _ (fun h => (h rfl).elim) ?_
                      clear hK K
                      try simp only [Act.put, List.setIfInBounds_toArray, List.set_cons_zero, List.set_cons_succ]
                      refine wpAnyL_done (by kernel_rfl) ?_ _
                      go_wp2_with fail
                      go_meet
                      case rel => exact HM.out
                    · refine oper_wp_val (v := .pointer (some ⟨v18.heap.size, 0, none⟩)) (w' := v18.alloc (.cells #[.int .i64 0, .bool false] 93)) (by go_simp) ?_
                      have hba : Below v18.heap.size v18 (v18.alloc (.cells #[.int .i64 0, .bool false] 93)) := (Below.refl _ _).alloc (Nat.le_refl _) _
                      have HS21 := two_next HS18 hba
                      have HX21_6 := Lib.hid (HX18_6.out.later hba)
                      have HX21_7 := Lib.hid (Box2.new v18 93 (.int .i64 0) (.bool false))
                      have HB21 := Lib.hid (HB18.out.trans (hba.mono HB18.out.size))
                      have hl21 : wr.heap.size ≤ v18.heap.size := HB18.out.size
                      have hq21_6 : g17 < v18.heap.size := (Array.getElem?_eq_some_iff.1 HX18_6.out).1
                      obtain ⟨g21, hg21⟩ : ∃ g, v18.heap.size = g := ⟨_, rfl⟩
                      obtain ⟨v21, hv21⟩ : ∃ v, v18.alloc (.cells #[.int .i64 0, .bool false] 93) = v := ⟨_, rfl⟩
                      rw [hv21] at HS21 HB21 HX21_7 HX21_6 ⊢
                      rw [hg21] at HX21_7 hl21 hq21_6 ⊢
                      clear hba hg21 hv21
                      refine hK _ _ (fun _ => HS21) ?_
                      clear hK K
                      try simp only [Act.put, List.setIfInBounds_toArray, List.set_cons_zero, List.set_cons_succ]
                      refine wpAnyL_one (j := 7) (by kernel_rfl) rfl (by rfl) (fun K hK => ?_) 
                      go_simp
                      with_reducible refine (HN1.out _).mono ?_
                      rintro e v22 ⟨rfl, hb⟩
                      have HS22 := two_next HS21 hb
                      have HX22_6 := Lib.hid (HX21_6.out.later hb)
                      have HX22_7 := Lib.hid (HX21_7.out.later hb)
                      have HB22 := Lib.hid (HB21.out.trans (hb.mono HB21.out.size))
                      clear hb
                      refine hK _ _ (fun _ => HS22) ?_
                      clear hK K
                      try simp only [Act.put, List.setIfInBounds_toArray, List.set_cons_zero, List.set_cons_succ]
                      have hne : g17 ≠ g21 := by omega
                      obtain ⟨z0, z1, f0, f1⟩ := HX22_6.out.at
                      have hy := box2_set hne HX22_7.out (.int .i64 n0) (.bool o0)
                      obtain ⟨y0, y1, e0, e1⟩ := hy.at
                      have HM := Lib.hid (met_of (n0 := n0) (o0 := o0) (n1 := n1) (o1 := o1) HB22.out HX22_6.out HX22_7.out hne (by omega) (by omega))
                      have HSL := two_set HS22 hbb (show wr.heap.size ≤ g17 by omega) (.int .i64 n0) (.bool o0)
                      clear hy
                      refine wpAnyL_one (j := 10) (by kernel_rfl) rfl (by rfl) (fun K hK => ?_)
                      go_simp
                      refine hK _ _ (fun _ => HSL) ?_
                      clear hK K
                      try simp only [Act.put, List.setIfInBounds_toArray, List.set_cons_zero, List.set_cons_succ]
                      refine wpAnyL_one (j := 11) (by kernel_rfl) rfl (by rfl) (fun K hK => ?_)
                      go_simp
                      refine hK _ _ (fun h => (h rfl).elim) ?_
                      clear hK K
                      try simp only [Act.put, List.setIfInBounds_toArray, List.set_cons_zero, List.set_cons_succ]
                      refine wpAnyL_done (by kernel_rfl) ?_ _
                      go_wp2_with fail
                      go_meet
                      case rel => exact HM.out
                  · refine oper_wp_val (v := .pointer (some ⟨v17.heap.size, 0, none⟩)) (w' := v17.alloc (.cells #[.int .i64 0, .bool false] 93)) (by go_simp) ?_
                    have hba : Below v17.heap.size v17 (v17.alloc (.cells #[.int .i64 0, .bool false] 93)) := (Below.refl _ _).alloc (Nat.le_refl _) _
                    have HS23 := two_next HS17 hba
                    have HX23_6 := Lib.hid (HX17_6.out.later hba)
                    have HX23_7 := Lib.hid (Box2.new v17 93 (.int .i64 0) (.bool false))
                    have HB23 := Lib.hid (HB17.out.trans (hba.mono HB17.out.size))
                    have hl23 : wr.heap.size ≤ v17.heap.size := HB17.out.size
                    have hq23_6 : g17 < v17.heap.size := (Array.getElem?_eq_some_iff.1 HX17_6.out).1
                    obtain ⟨g23, hg23⟩ : ∃ g, v17.heap.size = g := ⟨_, rfl⟩
                    obtain ⟨v23, hv23⟩ : ∃ v, v17.alloc (.cells #[.int .i64 0, .bool false] 93) = v := ⟨_, rfl⟩
                    rw [hv23] at HS23 HB23 HX23_7 HX23_6 ⊢
                    rw [hg23] at HX23_7 hl23 hq23_6 ⊢
                    clear hba hg23 hv23
                    refine hK _ _ (fun _ => HS23) ?_
                    clear hK K
                    try simp only [Act.put, List.setIfInBounds_toArray, List.set_cons_zero, List.set_cons_succ]
                    refine wpAnyL_one (j := 3) (by kernel_rfl) rfl (by rfl) (fun K hK => ?_) 
                    go_simp
                    with_reducible refine (HN0.out _).mono ?_
                    rintro e v24 ⟨rfl, hb⟩
                    have HS24 := two_next HS23 hb
                    have HX24_6 := Lib.hid (HX23_6.out.later hb)
                    have HX24_7 := Lib.hid (HX23_7.out.later hb)
                    have HB24 := Lib.hid (HB23.out.trans (hb.mono HB23.out.size))
                    clear hb
                    refine hK _ _ (fun _ => HS24) ?_
                    clear hK K
                    try simp only [Act.put, List.setIfInBounds_toArray, List.set_cons_zero, List.set_cons_succ]
                    refine wpAnyL_one (j := 7) (by kernel_rfl) rfl (by rfl) (fun K hK => ?_) 
                    go_simp
                    with_reducible refine (HN1.out _).mono ?_
                    rintro e v25 ⟨rfl, hb⟩
                    have HS25 := two_next HS24 hb
                    have HX25_6 := Lib.hid (HX24_6.out.later hb)
                    have HX25_7 := Lib.hid (HX24_7.out.later hb)
                    have HB25 := Lib.hid (HB24.out.trans (hb.mono HB24.out.size))
                    clear hb
                    refine hK _ _ (fun _ => HS25) ?_
                    clear hK K
                    try simp only [Act.put, List.setIfInBounds_toArray, List.set_cons_zero, List.set_cons_succ]
                    have hne : g17 ≠ g23 := by omega
                    obtain ⟨z0, z1, f0, f1⟩ := HX25_6.out.at
                    have hy := box2_set hne HX25_7.out (.int .i64 n0) (.bool o0)
                    obtain ⟨y0, y1, e0, e1⟩ := hy.at
                    have HM := Lib.hid (met_of (n0 := n0) (o0 := o0) (n1 := n1) (o1 := o1) HB25.out HX25_6.out HX25_7.out hne (by omega) (by omega))
                    have HSL := two_set HS25 hbb (show wr.heap.size ≤ g17 by omega) (.int .i64 n0) (.bool o0)
                    clear hy
                    refine wpAnyL_one (j := 10) (by kernel_rfl) rfl (by rfl) (fun K hK => ?_)
                    go_simp
                    refine hK _ _ (fun _ => HSL) ?_
                    clear hK K
                    try simp only [Act.put, List.setIfInBounds_toArray, List.set_cons_zero, List.set_cons_succ]
                    refine wpAnyL_one (j := 11) (by kernel_rfl) rfl (by rfl) (fun K hK => ?_)
                    go_simp
                    refine hK _ _ (fun h => (h rfl).elim) ?_
                    clear hK K
                    try simp only [Act.put, List.setIfInBounds_toArray, List.set_cons_zero, List.set_cons_succ]
                    refine wpAnyL_done (by kernel_rfl) ?_ _
                    go_wp2_with fail
                    go_meet
                    case rel => exact HM.out
                · refine oper_wp_val (v := .pointer (some ⟨wr.drew.heap.size, 0, none⟩)) (w' := wr.drew.alloc (.cells #[.int .i64 0, .bool false] 93)) (by go_simp) ?_
                  have hba : Below wr.drew.heap.size wr.drew (wr.drew.alloc (.cells #[.int .i64 0, .bool false] 93)) := (Below.refl _ _).alloc (Nat.le_refl _) _
                  have HS26 := two_next HS0 hba
                  have HX26_7 := Lib.hid (Box2.new wr.drew 93 (.int .i64 0) (.bool false))
                  have HB26 := Lib.hid (HB0.out.trans (hba.mono HB0.out.size))
                  have hl26 : wr.heap.size ≤ wr.drew.heap.size := HB0.out.size
                  obtain ⟨g26, hg26⟩ : ∃ g, wr.drew.heap.size = g := ⟨_, rfl⟩
                  obtain ⟨v26, hv26⟩ : ∃ v, wr.drew.alloc (.cells #[.int .i64 0, .bool false] 93) = v := ⟨_, rfl⟩
                  rw [hv26] at HS26 HB26 HX26_7 ⊢
                  rw [hg26] at HX26_7 hl26 ⊢
                  clear hba hg26 hv26
                  refine hK _ _ (fun _ => HS26) ?_
                  clear hK K
                  try simp only [Act.put, List.setIfInBounds_toArray, List.set_cons_zero, List.set_cons_succ]
                  refine wpAnyL_two (i := 3) (j := 8) (by kernel_rfl) rfl rfl (by rfl) (by rfl) (fun K hK => ?_) (fun K hK => ?_) 
                  · go_simp
                    with_reducible refine (HN0.out _).mono ?_
                    rintro e v27 ⟨rfl, hb⟩
                    have HS27 := two_next HS26 hb
                    have HX27_7 := Lib.hid (HX26_7.out.later hb)
                    have HB27 := Lib.hid (HB26.out.trans (hb.mono HB26.out.size))
                    clear hb
                    refine hK _ _ (fun _ => HS27) ?_
                    clear hK K
                    try simp only [Act.put, List.setIfInBounds_toArray, List.set_cons_zero, List.set_cons_succ]
                    refine wpAnyL_two (i := 7) (j := 8) (by kernel_rfl) rfl rfl (by rfl) (by rfl) (fun K hK => ?_) (fun K hK => ?_) 
                    · go_simp
                      with_reducible refine (HN1.out _).mono ?_
                      rintro e v28 ⟨rfl, hb⟩
                      have HS28 := two_next HS27 hb
                      have HX28_7 := Lib.hid (HX27_7.out.later hb)
                      have HB28 := Lib.hid (HB27.out.trans (hb.mono HB27.out.size))
                      clear hb
                      refine hK _ _ (fun _ => HS28) ?_
                      clear hK K
                      try simp only [Act.put, List.setIfInBounds_toArray, List.set_cons_zero, List.set_cons_succ]
                      refine wpAnyL_one (j := 8) (by kernel_rfl) rfl (by rfl) (fun K hK => ?_) 
                      refine oper_wp_val (v := .pointer (some ⟨v28.heap.size, 0, none⟩)) (w' := v28.alloc (.cells #[.int .i64 0, .bool false] 93)) (by go_simp) ?_
                      have hba : Below v28.heap.size v28 (v28.alloc (.cells #[.int .i64 0, .bool false] 93)) := (Below.refl _ _).alloc (Nat.le_refl _) _
                      have HS29 := two_next HS28 hba
                      have HX29_7 := Lib.hid (HX28_7.out.later hba)
                      have HX29_6 := Lib.hid (Box2.new v28 93 (.int .i64 0) (.bool false))
                      have HB29 := Lib.hid (HB28.out.trans (hba.mono HB28.out.size))
                      have hl29 : wr.heap.size ≤ v28.heap.size := HB28.out.size
                      have hq29_7 : g26 < v28.heap.size := (Array.getElem?_eq_some_iff.1 HX28_7.out).1
                      obtain ⟨g29, hg29⟩ : ∃ g, v28.heap.size = g := ⟨_, rfl⟩
                      obtain ⟨v29, hv29⟩ : ∃ v, v28.alloc (.cells #[.int .i64 0, .bool false] 93) = v := ⟨_, rfl⟩
                      rw [hv29] at HS29 HB29 HX29_6 HX29_7 ⊢
                      rw [hg29] at HX29_6 hl29 hq29_7 ⊢
                      clear hba hg29 hv29
                      refine hK _ _ (fun _ => HS29) ?_
                      clear hK K
                      try simp only [Act.put, List.setIfInBounds_toArray, List.set_cons_zero, List.set_cons_succ]
                      have hne : g29 ≠ g26 := by omega
                      obtain ⟨z0, z1, f0, f1⟩ := HX29_6.out.at
                      have hy := box2_set hne HX29_7.out (.int .i64 n0) (.bool o0)
                      obtain ⟨y0, y1, e0, e1⟩ := hy.at
                      have HM := Lib.hid (met_of (n0 := n0) (o0 := o0) (n1 := n1) (o1 := o1) HB29.out HX29_6.out HX29_7.out hne (by omega) (by omega))
                      have HSL := two_set HS29 hbb (show wr.heap.size ≤ g29 by omega) (.int .i64 n0) (.bool o0)
                      clear hy
                      refine wpAnyL_one (j := 10) (by kernel_rfl) rfl (by rfl) (fun K hK => ?_)
                      go_simp
                      refine hK _ _ (fun _ => HSL) ?_
                      clear hK K
                      try simp only [Act.put, List.setIfInBounds_toArray, List.set_cons_zero, List.set_cons_succ]
                      refine wpAnyL_one (j := 11) (by kernel_rfl) rfl (by rfl) (fun K hK => ?_)
                      go_simp
                      refine hK _ _ (fun h => (h rfl).elim) ?_
                      clear hK K
                      try simp only [Act.put, List.setIfInBounds_toArray, List.set_cons_zero, List.set_cons_succ]
                      refine wpAnyL_done (by kernel_rfl) ?_ _
                      go_wp2_with fail
                      go_meet
                      case rel => exact HM.out
                    · refine oper_wp_val (v := .pointer (some ⟨v27.heap.size, 0, none⟩)) (w' := v27.alloc (.cells #[.int .i64 0, .bool false] 93)) (by go_simp) ?_
                      have hba : Below v27.heap.size v27 (v27.alloc (.cells #[.int .i64 0, .bool false] 93)) := (Below.refl _ _).alloc (Nat.le_refl _) _
                      have HS30 := two_next HS27 hba
                      have HX30_7 := Lib.hid (HX27_7.out.later hba)
                      have HX30_6 := Lib.hid (Box2.new v27 93 (.int .i64 0) (.bool false))
                      have HB30 := Lib.hid (HB27.out.trans (hba.mono HB27.out.size))
                      have hl30 : wr.heap.size ≤ v27.heap.size := HB27.out.size
                      have hq30_7 : g26 < v27.heap.size := (Array.getElem?_eq_some_iff.1 HX27_7.out).1
                      obtain ⟨g30, hg30⟩ : ∃ g, v27.heap.size = g := ⟨_, rfl⟩
                      obtain ⟨v30, hv30⟩ : ∃ v, v27.alloc (.cells #[.int .i64 0, .bool false] 93) = v := ⟨_, rfl⟩
                      rw [hv30] at HS30 HB30 HX30_6 HX30_7 ⊢
                      rw [hg30] at HX30_6 hl30 hq30_7 ⊢
                      clear hba hg30 hv30
                      refine hK _ _ (fun _ => HS30) ?_
                      clear hK K
                      try simp only [Act.put, List.setIfInBounds_toArray, List.set_cons_zero, List.set_cons_succ]
                      refine wpAnyL_one (j := 7) (by kernel_rfl) rfl (by rfl) (fun K hK => ?_) 
                      go_simp
                      with_reducible refine (HN1.out _).mono ?_
                      rintro e v31 ⟨rfl, hb⟩
                      have HS31 := two_next HS30 hb
                      have HX31_7 := Lib.hid (HX30_7.out.later hb)
                      have HX31_6 := Lib.hid (HX30_6.out.later hb)
                      have HB31 := Lib.hid (HB30.out.trans (hb.mono HB30.out.size))
                      clear hb
                      refine hK _ _ (fun _ => HS31) ?_
                      clear hK K
                      try simp only [Act.put, List.setIfInBounds_toArray, List.set_cons_zero, List.set_cons_succ]
                      have hne : g30 ≠ g26 := by omega
                      obtain ⟨z0, z1, f0, f1⟩ := HX31_6.out.at
                      have hy := box2_set hne HX31_7.out (.int .i64 n0) (.bool o0)
                      obtain ⟨y0, y1, e0, e1⟩ := hy.at
                      have HM := Lib.hid (met_of (n0 := n0) (o0 := o0) (n1 := n1) (o1 := o1) HB31.out HX31_6.out HX31_7.out hne (by omega) (by omega))
                      have HSL := two_set HS31 hbb (show wr.heap.size ≤ g30 by omega) (.int .i64 n0) (.bool o0)
                      clear hy
                      refine wpAnyL_one (j := 10) (by kernel_rfl) rfl (by rfl) (fun K hK => ?_)
                      go_simp
                      refine hK _ _ (fun _ => HSL) ?_
                      clear hK K
                      try simp only [Act.put, List.setIfInBounds_toArray, List.set_cons_zero, List.set_cons_succ]
                      refine wpAnyL_one (j := 11) (by kernel_rfl) rfl (by rfl) (fun K hK => ?_)
                      go_simp
                      refine hK _ _ (fun h => (h rfl).elim) ?_
                      clear hK K
                      try simp only [Act.put, List.setIfInBounds_toArray, List.set_cons_zero, List.set_cons_succ]
                      refine wpAnyL_done (by kernel_rfl) ?_ _
                      go_wp2_with fail
                      go_meet
                      case rel => exact HM.out
                  · refine oper_wp_val (v := .pointer (some ⟨v26.heap.size, 0, none⟩)) (w' := v26.alloc (.cells #[.int .i64 0, .bool false] 93)) (by go_simp) ?_
                    have hba : Below v26.heap.size v26 (v26.alloc (.cells #[.int .i64 0, .bool false] 93)) := (Below.refl _ _).alloc (Nat.le_refl _) _
                    have HS32 := two_next HS26 hba
                    have HX32_7 := Lib.hid (HX26_7.out.later hba)
                    have HX32_6 := Lib.hid (Box2.new v26 93 (.int .i64 0) (.bool false))
                    have HB32 := Lib.hid (HB26.out.trans (hba.mono HB26.out.size))
                    have hl32 : wr.heap.size ≤ v26.heap.size := HB26.out.size
                    have hq32_7 : g26 < v26.heap.size := (Array.getElem?_eq_some_iff.1 HX26_7.out).1
                    obtain ⟨g32, hg32⟩ : ∃ g, v26.heap.size = g := ⟨_, rfl⟩
                    obtain ⟨v32, hv32⟩ : ∃ v, v26.alloc (.cells #[.int .i64 0, .bool false] 93) = v := ⟨_, rfl⟩
                    rw [hv32] at HS32 HB32 HX32_6 HX32_7 ⊢
                    rw [hg32] at HX32_6 hl32 hq32_7 ⊢
                    clear hba hg32 hv32
                    refine hK _ _ (fun _ => HS32) ?_
                    clear hK K
                    try simp only [Act.put, List.setIfInBounds_toArray, List.set_cons_zero, List.set_cons_succ]
                    refine wpAnyL_one (j := 3) (by kernel_rfl) rfl (by rfl) (fun K hK => ?_) 
                    go_simp
                    with_reducible refine (HN0.out _).mono ?_
                    rintro e v33 ⟨rfl, hb⟩
                    have HS33 := two_next HS32 hb
                    have HX33_7 := Lib.hid (HX32_7.out.later hb)
                    have HX33_6 := Lib.hid (HX32_6.out.later hb)
                    have HB33 := Lib.hid (HB32.out.trans (hb.mono HB32.out.size))
                    clear hb
                    refine hK _ _ (fun _ => HS33) ?_
                    clear hK K
                    try simp only [Act.put, List.setIfInBounds_toArray, List.set_cons_zero, List.set_cons_succ]
                    refine wpAnyL_one (j := 7) (by kernel_rfl) rfl (by rfl) (fun K hK => ?_) 
                    go_simp
                    with_reducible refine (HN1.out _).mono ?_
                    rintro e v34 ⟨rfl, hb⟩
                    have HS34 := two_next HS33 hb
                    have HX34_7 := Lib.hid (HX33_7.out.later hb)
                    have HX34_6 := Lib.hid (HX33_6.out.later hb)
                    have HB34 := Lib.hid (HB33.out.trans (hb.mono HB33.out.size))
                    clear hb
                    refine hK _ _ (fun _ => HS34) ?_
                    clear hK K
                    try simp only [Act.put, List.setIfInBounds_toArray, List.set_cons_zero, List.set_cons_succ]
                    have hne : g32 ≠ g26 := by omega
                    obtain ⟨z0, z1, f0, f1⟩ := HX34_6.out.at
                    have hy := box2_set hne HX34_7.out (.int .i64 n0) (.bool o0)
                    obtain ⟨y0, y1, e0, e1⟩ := hy.at
                    have HM := Lib.hid (met_of (n0 := n0) (o0 := o0) (n1 := n1) (o1 := o1) HB34.out HX34_6.out HX34_7.out hne (by omega) (by omega))
                    have HSL := two_set HS34 hbb (show wr.heap.size ≤ g32 by omega) (.int .i64 n0) (.bool o0)
                    clear hy
                    refine wpAnyL_one (j := 10) (by kernel_rfl) rfl (by rfl) (fun K hK => ?_)
                    go_simp
                    refine hK _ _ (fun _ => HSL) ?_
                    clear hK K
                    try simp only [Act.put, List.setIfInBounds_toArray, List.set_cons_zero, List.set_cons_succ]
                    refine wpAnyL_one (j := 11) (by kernel_rfl) rfl (by rfl) (fun K hK => ?_)
                    go_simp
                    refine hK _ _ (fun h => (h rfl).elim) ?_
                    clear hK K
                    try simp only [Act.put, List.setIfInBounds_toArray, List.set_cons_zero, List.set_cons_succ]
                    refine wpAnyL_done (by kernel_rfl) ?_ _
                    go_wp2_with fail
                    go_meet
                    case rel => exact HM.out
              case rest =>
                obtain ⟨x6, x7, rfl, rfl, hx6, hx7, hbw⟩ := hcut
                have HBW := Lib.hid (HB2.out.trans (hbw.mono HB2.out.size))
                have HXW := Lib.hid (HX2.out.later (n := wr.heap.size) hbw (by omega))
                have g0 := (hbw.cell (p := ⟨b, off, none⟩) hbb).trans HC0.out
                obtain ⟨a0, a1, -, -⟩ := hx6.at
                obtain ⟨b0, b1, -, -⟩ := hx7.at
                obtain ⟨⟨z0, z1, z2⟩, f0, f1, f2⟩ := HXW.out.at
                have HEND := Lib.hid (sent_end HXW.out HBW.out [] 0 0)
                have HENDY := Lib.hid (sent_end HXW.out HBW.out x n0 n1)
                clear hbw hx6 hx7 HN0 HN1 HX2 HB2
                cases o0 with
                | false =>
                  have HZ := Lib.hid (HR4.out (.inl rfl))
                  go_wp2_with fail
                  exact bodyPost_ret (results_cellT rfl rfl HEND.out.1.load) rfl ⟨[], 0, 0, HZ.out, rfl, HEND.out.2⟩
                | true =>
                  cases o1 with
                  | false =>
                    have HZ := Lib.hid (HR4.out (.inr (.inl rfl)))
                    go_wp2_with fail
                    exact bodyPost_ret (results_cellT rfl rfl HEND.out.1.load) rfl ⟨[], 0, 0, HZ.out, rfl, HEND.out.2⟩
                  | true =>
                    by_cases c1 : n0 < 0
                    · have HZ := Lib.hid (HR4.out (.inr (.inr (.inl c1))))
                      go_wp2_with fail
                      exact bodyPost_ret (results_cellT rfl rfl HEND.out.1.load) rfl ⟨[], 0, 0, HZ.out, rfl, HEND.out.2⟩
                    · by_cases c2 : 16384 ≤ n0
                      · have HZ := Lib.hid (HR4.out (.inr (.inr (.inr (.inl c2)))))
                        go_wp2_with fail
                        exact bodyPost_ret (results_cellT rfl rfl HEND.out.1.load) rfl ⟨[], 0, 0, HZ.out, rfl, HEND.out.2⟩
                      · by_cases c3 : n1 < 0
                        · have HZ := Lib.hid (HR4.out (.inr (.inr (.inr (.inr (.inl c3))))))
                          go_wp2_with fail
                          exact bodyPost_ret (results_cellT rfl rfl HEND.out.1.load) rfl ⟨[], 0, 0, HZ.out, rfl, HEND.out.2⟩
                        · by_cases c4 : 8 ≤ n1
                          · have HZ := Lib.hid (HR4.out (.inr (.inr (.inr (.inr (.inr c4))))))
                            go_wp2_with fail
                            exact bodyPost_ret (results_cellT rfl rfl HEND.out.1.load) rfl ⟨[], 0, 0, HZ.out, rfl, HEND.out.2⟩
                          · have HZ := Lib.hid (HR5.out HRW.out rfl rfl (by omega) (by omega) (by omega) (by omega))
                            go_upto_region 14 with (fail)
                            go_region
                            go_wp2_with fail
                            exact bodyPost_ret (results_cellT rfl rfl (SentAt.drew HENDY.out.1).load) rfl ⟨x, n0, n1, HZ.out, rfl, HENDY.out.2.drew⟩
            · have hxa : (x == [77, 79, 86, 69, 68]) = false := by rw [hxm]; rfl
              have hxb : (x == [65, 83, 75]) = true := by rw [hxm]; rfl
              have hx0 : x = Rt.mvd ∨ x = Rt.ask := .inr hxm
              clear hxm
              obtain ⟨n0, o0, hn0⟩ : ∃ n o, Tx.numS y = (n, o) := ⟨_, _, rfl⟩
              obtain ⟨n1, o1, hn1⟩ : ∃ n o, Tx.numS z = (n, o) := ⟨_, _, rfl⟩
              have HN0 : Hid (∀ W, Calls Tryd.prog 35 #[.string ⟨y.toArray⟩] W fun e w2 => e = .returned (.agg #[.int .i64 n0, .bool o0]) ∧ Below W.heap.size W w2) := Lib.hid fun W => by have h := refNum_any y W (by omega); unfold NumOut at h; rw [hn0] at h; exact h
              have HN1 : Hid (∀ W, Calls Tryd.prog 35 #[.string ⟨z.toArray⟩] W fun e w2 => e = .returned (.agg #[.int .i64 n1, .bool o1]) ∧ Below W.heap.size W w2) := Lib.hid fun W => by have h := refNum_any z W (by omega); unfold NumOut at h; rw [hn1] at h; exact h
              rw [hn0, hn1] at HR4 HR5
              have hnb0 : n0 = 0 ∨ (-9223372036854775808 ≤ n0 ∧ n0 ≤ 9223372036854775807) := by cases o0 with | true => exact .inr (Tx.num_is hn0).2 | false => exact .inl (congrArg Prod.fst (hn0.symm.trans (Tx.num_no (by rw [hn0]))))
              have hnb1 : n1 = 0 ∨ (-9223372036854775808 ≤ n1 ∧ n1 ≤ 9223372036854775807) := by cases o1 with | true => exact .inr (Tx.num_is hn1).2 | false => exact .inl (congrArg Prod.fst (hn1.symm.trans (Tx.num_no (by rw [hn1]))))
              have HC0 := Lib.hid g0
              have hbb : b < wr.heap.size := hbl
              have HS0 : wr.drew.cell? ⟨b, off + 1, none⟩ = some (.string ⟨y.toArray⟩) ∧ wr.drew.cell? ⟨b, off + 2, none⟩ = some (.string ⟨z.toArray⟩) := ⟨(World.cell?_drew _ _).trans g1, (World.cell?_drew _ _).trans g2⟩
              have HB0 := Lib.hid ((Below.refl wr.heap.size wr).drew)
              have HRW := Lib.hid hx0
              clear hn0 hn1 hx0 HR3
              go_upto_region 11 with (fail)
              clear g0 g1 g2
              go_cut [6, 7] (fun p q W1 => MetR wr n0 o0 n1 o1 p q W1)
              case first =>
                refine wp_region_L (S := fun W => W.cell? ⟨b, off + 1, none⟩ = some (.string ⟨y.toArray⟩) ∧ W.cell? ⟨b, off + 2, none⟩ = some (.string ⟨z.toArray⟩)) (f := 11) (by kernel_rfl) ?_
                refine wpAnyL_take (i := 0) (some 49) (v := .slice (some ⟨b, off, none⟩) 3 cw) rfl rfl (by kernel_rfl) (by kernel_rfl) (by kernel_rfl) (by kernel_rfl) (fun _ _ _ h => h) (by rfl) (fun W hS => ?_) HS0 ?_
                · obtain ⟨m0, m1⟩ := hS
                  go_simp
                try simp only [Act.put, List.setIfInBounds_toArray, List.set_cons_zero, List.set_cons_succ]
                refine wpAnyL_take (i := 1) (some 50) (v := .pointer (some ⟨b, off + 1, none⟩)) rfl rfl (by kernel_rfl) (by kernel_rfl) (by kernel_rfl) (by kernel_rfl) (fun _ _ _ h => h) (by rfl) (fun W hS => ?_) HS0 ?_
                · obtain ⟨m0, m1⟩ := hS
                  go_simp
                try simp only [Act.put, List.setIfInBounds_toArray, List.set_cons_zero, List.set_cons_succ]
                refine wpAnyL_take (i := 2) (some 51) (v := .string ⟨y.toArray⟩) rfl rfl (by kernel_rfl) (by kernel_rfl) (by kernel_rfl) (by kernel_rfl) (fun _ _ _ h => h) (by rfl) (fun W hS => ?_) HS0 ?_
                · obtain ⟨m0, m1⟩ := hS
                  go_simp
                try simp only [Act.put, List.setIfInBounds_toArray, List.set_cons_zero, List.set_cons_succ]
                refine wpAnyL_take (i := 4) (some 53) (v := .slice (some ⟨b, off, none⟩) 3 cw) rfl rfl (by kernel_rfl) (by kernel_rfl) (by kernel_rfl) (by kernel_rfl) (fun _ _ _ h => h) (by rfl) (fun W hS => ?_) HS0 ?_
                · obtain ⟨m0, m1⟩ := hS
                  go_simp
                try simp only [Act.put, List.setIfInBounds_toArray, List.set_cons_zero, List.set_cons_succ]
                refine wpAnyL_take (i := 5) (some 54) (v := .pointer (some ⟨b, off + 2, none⟩)) rfl rfl (by kernel_rfl) (by kernel_rfl) (by kernel_rfl) (by kernel_rfl) (fun _ _ _ h => h) (by rfl) (fun W hS => ?_) HS0 ?_
                · obtain ⟨m0, m1⟩ := hS
                  go_simp
                try simp only [Act.put, List.setIfInBounds_toArray, List.set_cons_zero, List.set_cons_succ]
                refine wpAnyL_take (i := 6) (some 55) (v := .string ⟨z.toArray⟩) rfl rfl (by kernel_rfl) (by kernel_rfl) (by kernel_rfl) (by kernel_rfl) (fun _ _ _ h => h) (by rfl) (fun W hS => ?_) HS0 ?_
                · obtain ⟨m0, m1⟩ := hS
                  go_simp
                try simp only [Act.put, List.setIfInBounds_toArray, List.set_cons_zero, List.set_cons_succ]
                refine wpAnyL_three (i := 3) (j := 8) (l := 9) (by kernel_rfl) rfl rfl rfl (by rfl) (by rfl) (by rfl) (fun K hK => ?_) (fun K hK => ?_) (fun K hK => ?_) 
                · go_simp
                  with_reducible refine (HN0.out _).mono ?_
                  rintro e v1 ⟨rfl, hb⟩
                  have HS1 := two_next HS0 hb
                  have HB1 := Lib.hid (HB0.out.trans (hb.mono HB0.out.size))
                  clear hb
                  refine hK _ _ (fun _ => HS1) ?_
                  clear hK K
                  try simp only [Act.put, List.setIfInBounds_toArray, List.set_cons_zero, List.set_cons_succ]
                  refine wpAnyL_three (i := 7) (j := 8) (l := 9) (by kernel_rfl) rfl rfl rfl (by rfl) (by rfl) (by rfl) (fun K hK => ?_) (fun K hK => ?_) (fun K hK => ?_) 
                  · go_simp
                    with_reducible refine (HN1.out _).mono ?_
                    rintro e v2 ⟨rfl, hb⟩
                    have HS2 := two_next HS1 hb
                    have HB2 := Lib.hid (HB1.out.trans (hb.mono HB1.out.size))
                    clear hb
                    refine hK _ _ (fun _ => HS2) ?_
                    clear hK K
                    try simp only [Act.put, List.setIfInBounds_toArray, List.set_cons_zero, List.set_cons_succ]
                    refine wpAnyL_two (i := 8) (j := 9) (by kernel_rfl) rfl rfl (by rfl) (by rfl) (fun K hK => ?_) (fun K hK => ?_) 
                    · refine oper_wp_val (v := .pointer (some ⟨v2.heap.size, 0, none⟩)) (w' := v2.alloc (.cells #[.int .i64 0, .bool false] 93)) (by go_simp) ?_
                      have hba : Below v2.heap.size v2 (v2.alloc (.cells #[.int .i64 0, .bool false] 93)) := (Below.refl _ _).alloc (Nat.le_refl _) _
                      have HS3 := two_next HS2 hba
                      have HX3_6 := Lib.hid (Box2.new v2 93 (.int .i64 0) (.bool false))
                      have HB3 := Lib.hid (HB2.out.trans (hba.mono HB2.out.size))
                      have hl3 : wr.heap.size ≤ v2.heap.size := HB2.out.size
                      obtain ⟨g3, hg3⟩ : ∃ g, v2.heap.size = g := ⟨_, rfl⟩
                      obtain ⟨v3, hv3⟩ : ∃ v, v2.alloc (.cells #[.int .i64 0, .bool false] 93) = v := ⟨_, rfl⟩
                      rw [hv3] at HS3 HB3 HX3_6 ⊢
                      rw [hg3] at HX3_6 hl3 ⊢
                      clear hba hg3 hv3
                      refine hK _ _ (fun _ => HS3) ?_
                      clear hK K
                      try simp only [Act.put, List.setIfInBounds_toArray, List.set_cons_zero, List.set_cons_succ]
                      refine wpAnyL_one (j := 9) (by kernel_rfl) rfl (by rfl) (fun K hK => ?_) 
                      refine oper_wp_val (v := .pointer (some ⟨v3.heap.size, 0, none⟩)) (w' := v3.alloc (.cells #[.int .i64 0, .bool false] 93)) (by go_simp) ?_
                      have hba : Below v3.heap.size v3 (v3.alloc (.cells #[.int .i64 0, .bool false] 93)) := (Below.refl _ _).alloc (Nat.le_refl _) _
                      have HS4 := two_next HS3 hba
                      have HX4_6 := Lib.hid (HX3_6.out.later hba)
                      have HX4_7 := Lib.hid (Box2.new v3 93 (.int .i64 0) (.bool false))
                      have HB4 := Lib.hid (HB3.out.trans (hba.mono HB3.out.size))
                      have hl4 : wr.heap.size ≤ v3.heap.size := HB3.out.size
                      have hq4_6 : g3 < v3.heap.size := (Array.getElem?_eq_some_iff.1 HX3_6.out).1
                      obtain ⟨g4, hg4⟩ : ∃ g, v3.heap.size = g := ⟨_, rfl⟩
                      obtain ⟨v4, hv4⟩ : ∃ v, v3.alloc (.cells #[.int .i64 0, .bool false] 93) = v := ⟨_, rfl⟩
                      rw [hv4] at HS4 HB4 HX4_7 HX4_6 ⊢
                      rw [hg4] at HX4_7 hl4 hq4_6 ⊢
                      clear hba hg4 hv4
                      refine hK _ _ (fun _ => HS4) ?_
                      clear hK K
                      try simp only [Act.put, List.setIfInBounds_toArray, List.set_cons_zero, List.set_cons_succ]
                      have hne : g3 ≠ g4 := by omega
                      obtain ⟨z0, z1, f0, f1⟩ := HX4_6.out.at
                      have hy := box2_set hne HX4_7.out (.int .i64 n0) (.bool o0)
                      obtain ⟨y0, y1, e0, e1⟩ := hy.at
                      have HM := Lib.hid (met_of (n0 := n0) (o0 := o0) (n1 := n1) (o1 := o1) HB4.out HX4_6.out HX4_7.out hne (by omega) (by omega))
                      have HSL := two_set HS4 hbb (show wr.heap.size ≤ g3 by omega) (.int .i64 n0) (.bool o0)
                      clear hy
                      refine wpAnyL_one (j := 10) (by kernel_rfl) rfl (by rfl) (fun K hK => ?_)
                      go_simp
                      refine hK _ _ (fun _ => HSL) ?_
                      clear hK K
                      try simp only [Act.put, List.setIfInBounds_toArray, List.set_cons_zero, List.set_cons_succ]
                      refine wpAnyL_one (j := 11) (by kernel_rfl) rfl (by rfl) (fun K hK => ?_)
                      go_simp
                      refine hK _ _ (fun h => (h rfl).elim) ?_
                      clear hK K
                      try simp only [Act.put, List.setIfInBounds_toArray, List.set_cons_zero, List.set_cons_succ]
                      refine wpAnyL_done (by kernel_rfl) ?_ _
                      go_wp2_with fail
                      go_meet
                      case rel => exact HM.out
                    · refine oper_wp_val (v := .pointer (some ⟨v2.heap.size, 0, none⟩)) (w' := v2.alloc (.cells #[.int .i64 0, .bool false] 93)) (by go_simp) ?_
                      have hba : Below v2.heap.size v2 (v2.alloc (.cells #[.int .i64 0, .bool false] 93)) := (Below.refl _ _).alloc (Nat.le_refl _) _
                      have HS5 := two_next HS2 hba
                      have HX5_7 := Lib.hid (Box2.new v2 93 (.int .i64 0) (.bool false))
                      have HB5 := Lib.hid (HB2.out.trans (hba.mono HB2.out.size))
                      have hl5 : wr.heap.size ≤ v2.heap.size := HB2.out.size
                      obtain ⟨g5, hg5⟩ : ∃ g, v2.heap.size = g := ⟨_, rfl⟩
                      obtain ⟨v5, hv5⟩ : ∃ v, v2.alloc (.cells #[.int .i64 0, .bool false] 93) = v := ⟨_, rfl⟩
                      rw [hv5] at HS5 HB5 HX5_7 ⊢
                      rw [hg5] at HX5_7 hl5 ⊢
                      clear hba hg5 hv5
                      refine hK _ _ (fun _ => HS5) ?_
                      clear hK K
                      try simp only [Act.put, List.setIfInBounds_toArray, List.set_cons_zero, List.set_cons_succ]
                      refine wpAnyL_one (j := 8) (by kernel_rfl) rfl (by rfl) (fun K hK => ?_) 
                      refine oper_wp_val (v := .pointer (some ⟨v5.heap.size, 0, none⟩)) (w' := v5.alloc (.cells #[.int .i64 0, .bool false] 93)) (by go_simp) ?_
                      have hba : Below v5.heap.size v5 (v5.alloc (.cells #[.int .i64 0, .bool false] 93)) := (Below.refl _ _).alloc (Nat.le_refl _) _
                      have HS6 := two_next HS5 hba
                      have HX6_7 := Lib.hid (HX5_7.out.later hba)
                      have HX6_6 := Lib.hid (Box2.new v5 93 (.int .i64 0) (.bool false))
                      have HB6 := Lib.hid (HB5.out.trans (hba.mono HB5.out.size))
                      have hl6 : wr.heap.size ≤ v5.heap.size := HB5.out.size
                      have hq6_7 : g5 < v5.heap.size := (Array.getElem?_eq_some_iff.1 HX5_7.out).1
                      obtain ⟨g6, hg6⟩ : ∃ g, v5.heap.size = g := ⟨_, rfl⟩
                      obtain ⟨v6, hv6⟩ : ∃ v, v5.alloc (.cells #[.int .i64 0, .bool false] 93) = v := ⟨_, rfl⟩
                      rw [hv6] at HS6 HB6 HX6_6 HX6_7 ⊢
                      rw [hg6] at HX6_6 hl6 hq6_7 ⊢
                      clear hba hg6 hv6
                      refine hK _ _ (fun _ => HS6) ?_
                      clear hK K
                      try simp only [Act.put, List.setIfInBounds_toArray, List.set_cons_zero, List.set_cons_succ]
                      have hne : g6 ≠ g5 := by omega
                      obtain ⟨z0, z1, f0, f1⟩ := HX6_6.out.at
                      have hy := box2_set hne HX6_7.out (.int .i64 n0) (.bool o0)
                      obtain ⟨y0, y1, e0, e1⟩ := hy.at
                      have HM := Lib.hid (met_of (n0 := n0) (o0 := o0) (n1 := n1) (o1 := o1) HB6.out HX6_6.out HX6_7.out hne (by omega) (by omega))
                      have HSL := two_set HS6 hbb (show wr.heap.size ≤ g6 by omega) (.int .i64 n0) (.bool o0)
                      clear hy
                      refine wpAnyL_one (j := 10) (by kernel_rfl) rfl (by rfl) (fun K hK => ?_)
                      go_simp
                      refine hK _ _ (fun _ => HSL) ?_
                      clear hK K
                      try simp only [Act.put, List.setIfInBounds_toArray, List.set_cons_zero, List.set_cons_succ]
                      refine wpAnyL_one (j := 11) (by kernel_rfl) rfl (by rfl) (fun K hK => ?_)
                      go_simp
                      refine hK _ _ (fun h => (h rfl).elim) ?_
                      clear hK K
                      try simp only [Act.put, List.setIfInBounds_toArray, List.set_cons_zero, List.set_cons_succ]
                      refine wpAnyL_done (by kernel_rfl) ?_ _
                      go_wp2_with fail
                      go_meet
                      case rel => exact HM.out
                  · refine oper_wp_val (v := .pointer (some ⟨v1.heap.size, 0, none⟩)) (w' := v1.alloc (.cells #[.int .i64 0, .bool false] 93)) (by go_simp) ?_
                    have hba : Below v1.heap.size v1 (v1.alloc (.cells #[.int .i64 0, .bool false] 93)) := (Below.refl _ _).alloc (Nat.le_refl _) _
                    have HS7 := two_next HS1 hba
                    have HX7_6 := Lib.hid (Box2.new v1 93 (.int .i64 0) (.bool false))
                    have HB7 := Lib.hid (HB1.out.trans (hba.mono HB1.out.size))
                    have hl7 : wr.heap.size ≤ v1.heap.size := HB1.out.size
                    obtain ⟨g7, hg7⟩ : ∃ g, v1.heap.size = g := ⟨_, rfl⟩
                    obtain ⟨v7, hv7⟩ : ∃ v, v1.alloc (.cells #[.int .i64 0, .bool false] 93) = v := ⟨_, rfl⟩
                    rw [hv7] at HS7 HB7 HX7_6 ⊢
                    rw [hg7] at HX7_6 hl7 ⊢
                    clear hba hg7 hv7
                    refine hK _ _ (fun _ => HS7) ?_
                    clear hK K
                    try simp only [Act.put, List.setIfInBounds_toArray, List.set_cons_zero, List.set_cons_succ]
                    refine wpAnyL_two (i := 7) (j := 9) (by kernel_rfl) rfl rfl (by rfl) (by rfl) (fun K hK => ?_) (fun K hK => ?_) 
                    · go_simp
                      with_reducible refine (HN1.out _).mono ?_
                      rintro e v8 ⟨rfl, hb⟩
                      have HS8 := two_next HS7 hb
                      have HX8_6 := Lib.hid (HX7_6.out.later hb)
                      have HB8 := Lib.hid (HB7.out.trans (hb.mono HB7.out.size))
                      clear hb
                      refine hK _ _ (fun _ => HS8) ?_
                      clear hK K
                      try simp only [Act.put, List.setIfInBounds_toArray, List.set_cons_zero, List.set_cons_succ]
                      refine wpAnyL_one (j := 9) (by kernel_rfl) rfl (by rfl) (fun K hK => ?_) 
                      refine oper_wp_val (v := .pointer (some ⟨v8.heap.size, 0, none⟩)) (w' := v8.alloc (.cells #[.int .i64 0, .bool false] 93)) (by go_simp) ?_
                      have hba : Below v8.heap.size v8 (v8.alloc (.cells #[.int .i64 0, .bool false] 93)) := (Below.refl _ _).alloc (Nat.le_refl _) _
                      have HS9 := two_next HS8 hba
                      have HX9_6 := Lib.hid (HX8_6.out.later hba)
                      have HX9_7 := Lib.hid (Box2.new v8 93 (.int .i64 0) (.bool false))
                      have HB9 := Lib.hid (HB8.out.trans (hba.mono HB8.out.size))
                      have hl9 : wr.heap.size ≤ v8.heap.size := HB8.out.size
                      have hq9_6 : g7 < v8.heap.size := (Array.getElem?_eq_some_iff.1 HX8_6.out).1
                      obtain ⟨g9, hg9⟩ : ∃ g, v8.heap.size = g := ⟨_, rfl⟩
                      obtain ⟨v9, hv9⟩ : ∃ v, v8.alloc (.cells #[.int .i64 0, .bool false] 93) = v := ⟨_, rfl⟩
                      rw [hv9] at HS9 HB9 HX9_7 HX9_6 ⊢
                      rw [hg9] at HX9_7 hl9 hq9_6 ⊢
                      clear hba hg9 hv9
                      refine hK _ _ (fun _ => HS9) ?_
                      clear hK K
                      try simp only [Act.put, List.setIfInBounds_toArray, List.set_cons_zero, List.set_cons_succ]
                      have hne : g7 ≠ g9 := by omega
                      obtain ⟨z0, z1, f0, f1⟩ := HX9_6.out.at
                      have hy := box2_set hne HX9_7.out (.int .i64 n0) (.bool o0)
                      obtain ⟨y0, y1, e0, e1⟩ := hy.at
                      have HM := Lib.hid (met_of (n0 := n0) (o0 := o0) (n1 := n1) (o1 := o1) HB9.out HX9_6.out HX9_7.out hne (by omega) (by omega))
                      have HSL := two_set HS9 hbb (show wr.heap.size ≤ g7 by omega) (.int .i64 n0) (.bool o0)
                      clear hy
                      refine wpAnyL_one (j := 10) (by kernel_rfl) rfl (by rfl) (fun K hK => ?_)
                      go_simp
                      refine hK _ _ (fun _ => HSL) ?_
                      clear hK K
                      try simp only [Act.put, List.setIfInBounds_toArray, List.set_cons_zero, List.set_cons_succ]
                      refine wpAnyL_one (j := 11) (by kernel_rfl) rfl (by rfl) (fun K hK => ?_)
                      go_simp
                      refine hK _ _ (fun h => (h rfl).elim) ?_
                      clear hK K
                      try simp only [Act.put, List.setIfInBounds_toArray, List.set_cons_zero, List.set_cons_succ]
                      refine wpAnyL_done (by kernel_rfl) ?_ _
                      go_wp2_with fail
                      go_meet
                      case rel => exact HM.out
                    · refine oper_wp_val (v := .pointer (some ⟨v7.heap.size, 0, none⟩)) (w' := v7.alloc (.cells #[.int .i64 0, .bool false] 93)) (by go_simp) ?_
                      have hba : Below v7.heap.size v7 (v7.alloc (.cells #[.int .i64 0, .bool false] 93)) := (Below.refl _ _).alloc (Nat.le_refl _) _
                      have HS10 := two_next HS7 hba
                      have HX10_6 := Lib.hid (HX7_6.out.later hba)
                      have HX10_7 := Lib.hid (Box2.new v7 93 (.int .i64 0) (.bool false))
                      have HB10 := Lib.hid (HB7.out.trans (hba.mono HB7.out.size))
                      have hl10 : wr.heap.size ≤ v7.heap.size := HB7.out.size
                      have hq10_6 : g7 < v7.heap.size := (Array.getElem?_eq_some_iff.1 HX7_6.out).1
                      obtain ⟨g10, hg10⟩ : ∃ g, v7.heap.size = g := ⟨_, rfl⟩
                      obtain ⟨v10, hv10⟩ : ∃ v, v7.alloc (.cells #[.int .i64 0, .bool false] 93) = v := ⟨_, rfl⟩
                      rw [hv10] at HS10 HB10 HX10_7 HX10_6 ⊢
                      rw [hg10] at HX10_7 hl10 hq10_6 ⊢
                      clear hba hg10 hv10
                      refine hK _ _ (fun _ => HS10) ?_
                      clear hK K
                      try simp only [Act.put, List.setIfInBounds_toArray, List.set_cons_zero, List.set_cons_succ]
                      refine wpAnyL_one (j := 7) (by kernel_rfl) rfl (by rfl) (fun K hK => ?_) 
                      go_simp
                      with_reducible refine (HN1.out _).mono ?_
                      rintro e v11 ⟨rfl, hb⟩
                      have HS11 := two_next HS10 hb
                      have HX11_6 := Lib.hid (HX10_6.out.later hb)
                      have HX11_7 := Lib.hid (HX10_7.out.later hb)
                      have HB11 := Lib.hid (HB10.out.trans (hb.mono HB10.out.size))
                      clear hb
                      refine hK _ _ (fun _ => HS11) ?_
                      clear hK K
                      try simp only [Act.put, List.setIfInBounds_toArray, List.set_cons_zero, List.set_cons_succ]
                      have hne : g7 ≠ g10 := by omega
                      obtain ⟨z0, z1, f0, f1⟩ := HX11_6.out.at
                      have hy := box2_set hne HX11_7.out (.int .i64 n0) (.bool o0)
                      obtain ⟨y0, y1, e0, e1⟩ := hy.at
                      have HM := Lib.hid (met_of (n0 := n0) (o0 := o0) (n1 := n1) (o1 := o1) HB11.out HX11_6.out HX11_7.out hne (by omega) (by omega))
                      have HSL := two_set HS11 hbb (show wr.heap.size ≤ g7 by omega) (.int .i64 n0) (.bool o0)
                      clear hy
                      refine wpAnyL_one (j := 10) (by kernel_rfl) rfl (by rfl) (fun K hK => ?_)
                      go_simp
                      refine hK _ _ (fun _ => HSL) ?_
                      clear hK K
                      try simp only [Act.put, List.setIfInBounds_toArray, List.set_cons_zero, List.set_cons_succ]
                      refine wpAnyL_one (j := 11) (by kernel_rfl) rfl (by rfl) (fun K hK => ?_)
                      go_simp
                      refine hK _ _ (fun h => (h rfl).elim) ?_
                      clear hK K
                      try simp only [Act.put, List.setIfInBounds_toArray, List.set_cons_zero, List.set_cons_succ]
                      refine wpAnyL_done (by kernel_rfl) ?_ _
                      go_wp2_with fail
                      go_meet
                      case rel => exact HM.out
                  · refine oper_wp_val (v := .pointer (some ⟨v1.heap.size, 0, none⟩)) (w' := v1.alloc (.cells #[.int .i64 0, .bool false] 93)) (by go_simp) ?_
                    have hba : Below v1.heap.size v1 (v1.alloc (.cells #[.int .i64 0, .bool false] 93)) := (Below.refl _ _).alloc (Nat.le_refl _) _
                    have HS12 := two_next HS1 hba
                    have HX12_7 := Lib.hid (Box2.new v1 93 (.int .i64 0) (.bool false))
                    have HB12 := Lib.hid (HB1.out.trans (hba.mono HB1.out.size))
                    have hl12 : wr.heap.size ≤ v1.heap.size := HB1.out.size
                    obtain ⟨g12, hg12⟩ : ∃ g, v1.heap.size = g := ⟨_, rfl⟩
                    obtain ⟨v12, hv12⟩ : ∃ v, v1.alloc (.cells #[.int .i64 0, .bool false] 93) = v := ⟨_, rfl⟩
                    rw [hv12] at HS12 HB12 HX12_7 ⊢
                    rw [hg12] at HX12_7 hl12 ⊢
                    clear hba hg12 hv12
                    refine hK _ _ (fun _ => HS12) ?_
                    clear hK K
                    try simp only [Act.put, List.setIfInBounds_toArray, List.set_cons_zero, List.set_cons_succ]
                    refine wpAnyL_two (i := 7) (j := 8) (by kernel_rfl) rfl rfl (by rfl) (by rfl) (fun K hK => ?_) (fun K hK => ?_) 
                    · go_simp
                      with_reducible refine (HN1.out _).mono ?_
                      rintro e v13 ⟨rfl, hb⟩
                      have HS13 := two_next HS12 hb
                      have HX13_7 := Lib.hid (HX12_7.out.later hb)
                      have HB13 := Lib.hid (HB12.out.trans (hb.mono HB12.out.size))
                      clear hb
                      refine hK _ _ (fun _ => HS13) ?_
                      clear hK K
                      try simp only [Act.put, List.setIfInBounds_toArray, List.set_cons_zero, List.set_cons_succ]
                      refine wpAnyL_one (j := 8) (by kernel_rfl) rfl (by rfl) (fun K hK => ?_) 
                      refine oper_wp_val (v := .pointer (some ⟨v13.heap.size, 0, none⟩)) (w' := v13.alloc (.cells #[.int .i64 0, .bool false] 93)) (by go_simp) ?_
                      have hba : Below v13.heap.size v13 (v13.alloc (.cells #[.int .i64 0, .bool false] 93)) := (Below.refl _ _).alloc (Nat.le_refl _) _
                      have HS14 := two_next HS13 hba
                      have HX14_7 := Lib.hid (HX13_7.out.later hba)
                      have HX14_6 := Lib.hid (Box2.new v13 93 (.int .i64 0) (.bool false))
                      have HB14 := Lib.hid (HB13.out.trans (hba.mono HB13.out.size))
                      have hl14 : wr.heap.size ≤ v13.heap.size := HB13.out.size
                      have hq14_7 : g12 < v13.heap.size := (Array.getElem?_eq_some_iff.1 HX13_7.out).1
                      obtain ⟨g14, hg14⟩ : ∃ g, v13.heap.size = g := ⟨_, rfl⟩
                      obtain ⟨v14, hv14⟩ : ∃ v, v13.alloc (.cells #[.int .i64 0, .bool false] 93) = v := ⟨_, rfl⟩
                      rw [hv14] at HS14 HB14 HX14_6 HX14_7 ⊢
                      rw [hg14] at HX14_6 hl14 hq14_7 ⊢
                      clear hba hg14 hv14
                      refine hK _ _ (fun _ => HS14) ?_
                      clear hK K
                      try simp only [Act.put, List.setIfInBounds_toArray, List.set_cons_zero, List.set_cons_succ]
                      have hne : g14 ≠ g12 := by omega
                      obtain ⟨z0, z1, f0, f1⟩ := HX14_6.out.at
                      have hy := box2_set hne HX14_7.out (.int .i64 n0) (.bool o0)
                      obtain ⟨y0, y1, e0, e1⟩ := hy.at
                      have HM := Lib.hid (met_of (n0 := n0) (o0 := o0) (n1 := n1) (o1 := o1) HB14.out HX14_6.out HX14_7.out hne (by omega) (by omega))
                      have HSL := two_set HS14 hbb (show wr.heap.size ≤ g14 by omega) (.int .i64 n0) (.bool o0)
                      clear hy
                      refine wpAnyL_one (j := 10) (by kernel_rfl) rfl (by rfl) (fun K hK => ?_)
                      go_simp
                      refine hK _ _ (fun _ => HSL) ?_
                      clear hK K
                      try simp only [Act.put, List.setIfInBounds_toArray, List.set_cons_zero, List.set_cons_succ]
                      refine wpAnyL_one (j := 11) (by kernel_rfl) rfl (by rfl) (fun K hK => ?_)
                      go_simp
                      refine hK _ _ (fun h => (h rfl).elim) ?_
                      clear hK K
                      try simp only [Act.put, List.setIfInBounds_toArray, List.set_cons_zero, List.set_cons_succ]
                      refine wpAnyL_done (by kernel_rfl) ?_ _
                      go_wp2_with fail
                      go_meet
                      case rel => exact HM.out
                    · refine oper_wp_val (v := .pointer (some ⟨v12.heap.size, 0, none⟩)) (w' := v12.alloc (.cells #[.int .i64 0, .bool false] 93)) (by go_simp) ?_
                      have hba : Below v12.heap.size v12 (v12.alloc (.cells #[.int .i64 0, .bool false] 93)) := (Below.refl _ _).alloc (Nat.le_refl _) _
                      have HS15 := two_next HS12 hba
                      have HX15_7 := Lib.hid (HX12_7.out.later hba)
                      have HX15_6 := Lib.hid (Box2.new v12 93 (.int .i64 0) (.bool false))
                      have HB15 := Lib.hid (HB12.out.trans (hba.mono HB12.out.size))
                      have hl15 : wr.heap.size ≤ v12.heap.size := HB12.out.size
                      have hq15_7 : g12 < v12.heap.size := (Array.getElem?_eq_some_iff.1 HX12_7.out).1
                      obtain ⟨g15, hg15⟩ : ∃ g, v12.heap.size = g := ⟨_, rfl⟩
                      obtain ⟨v15, hv15⟩ : ∃ v, v12.alloc (.cells #[.int .i64 0, .bool false] 93) = v := ⟨_, rfl⟩
                      rw [hv15] at HS15 HB15 HX15_6 HX15_7 ⊢
                      rw [hg15] at HX15_6 hl15 hq15_7 ⊢
                      clear hba hg15 hv15
                      refine hK _ _ (fun _ => HS15) ?_
                      clear hK K
                      try simp only [Act.put, List.setIfInBounds_toArray, List.set_cons_zero, List.set_cons_succ]
                      refine wpAnyL_one (j := 7) (by kernel_rfl) rfl (by rfl) (fun K hK => ?_) 
                      go_simp
                      with_reducible refine (HN1.out _).mono ?_
                      rintro e v16 ⟨rfl, hb⟩
                      have HS16 := two_next HS15 hb
                      have HX16_7 := Lib.hid (HX15_7.out.later hb)
                      have HX16_6 := Lib.hid (HX15_6.out.later hb)
                      have HB16 := Lib.hid (HB15.out.trans (hb.mono HB15.out.size))
                      clear hb
                      refine hK _ _ (fun _ => HS16) ?_
                      clear hK K
                      try simp only [Act.put, List.setIfInBounds_toArray, List.set_cons_zero, List.set_cons_succ]
                      have hne : g15 ≠ g12 := by omega
                      obtain ⟨z0, z1, f0, f1⟩ := HX16_6.out.at
                      have hy := box2_set hne HX16_7.out (.int .i64 n0) (.bool o0)
                      obtain ⟨y0, y1, e0, e1⟩ := hy.at
                      have HM := Lib.hid (met_of (n0 := n0) (o0 := o0) (n1 := n1) (o1 := o1) HB16.out HX16_6.out HX16_7.out hne (by omega) (by omega))
                      have HSL := two_set HS16 hbb (show wr.heap.size ≤ g15 by omega) (.int .i64 n0) (.bool o0)
                      clear hy
                      refine wpAnyL_one (j := 10) (by kernel_rfl) rfl (by rfl) (fun K hK => ?_)
                      go_simp
                      refine hK _ _ (fun _ => HSL) ?_
                      clear hK K
                      try simp only [Act.put, List.setIfInBounds_toArray, List.set_cons_zero, List.set_cons_succ]
                      refine wpAnyL_one (j := 11) (by kernel_rfl) rfl (by rfl) (fun K hK => ?_)
                      go_simp
                      refine hK _ _ (fun h => (h rfl).elim) ?_
                      clear hK K
                      try simp only [Act.put, List.setIfInBounds_toArray, List.set_cons_zero, List.set_cons_succ]
                      refine wpAnyL_done (by kernel_rfl) ?_ _
                      go_wp2_with fail
                      go_meet
                      case rel => exact HM.out
                · refine oper_wp_val (v := .pointer (some ⟨wr.drew.heap.size, 0, none⟩)) (w' := wr.drew.alloc (.cells #[.int .i64 0, .bool false] 93)) (by go_simp) ?_
                  have hba : Below wr.drew.heap.size wr.drew (wr.drew.alloc (.cells #[.int .i64 0, .bool false] 93)) := (Below.refl _ _).alloc (Nat.le_refl _) _
                  have HS17 := two_next HS0 hba
                  have HX17_6 := Lib.hid (Box2.new wr.drew 93 (.int .i64 0) (.bool false))
                  have HB17 := Lib.hid (HB0.out.trans (hba.mono HB0.out.size))
                  have hl17 : wr.heap.size ≤ wr.drew.heap.size := HB0.out.size
                  obtain ⟨g17, hg17⟩ : ∃ g, wr.drew.heap.size = g := ⟨_, rfl⟩
                  obtain ⟨v17, hv17⟩ : ∃ v, wr.drew.alloc (.cells #[.int .i64 0, .bool false] 93) = v := ⟨_, rfl⟩
                  rw [hv17] at HS17 HB17 HX17_6 ⊢
                  rw [hg17] at HX17_6 hl17 ⊢
                  clear hba hg17 hv17
                  refine hK _ _ (fun _ => HS17) ?_
                  clear hK K
                  try simp only [Act.put, List.setIfInBounds_toArray, List.set_cons_zero, List.set_cons_succ]
                  refine wpAnyL_two (i := 3) (j := 9) (by kernel_rfl) rfl rfl (by rfl) (by rfl) (fun K hK => ?_) (fun K hK => ?_) 
                  · go_simp
                    with_reducible refine (HN0.out _).mono ?_
                    rintro e v18 ⟨rfl, hb⟩
                    have HS18 := two_next HS17 hb
                    have HX18_6 := Lib.hid (HX17_6.out.later hb)
                    have HB18 := Lib.hid (HB17.out.trans (hb.mono HB17.out.size))
                    clear hb
                    refine hK _ _ (fun _ => HS18) ?_
                    clear hK K
                    try simp only [Act.put, List.setIfInBounds_toArray, List.set_cons_zero, List.set_cons_succ]
                    refine wpAnyL_two (i := 7) (j := 9) (by kernel_rfl) rfl rfl (by rfl) (by rfl) (fun K hK => ?_) (fun K hK => ?_) 
                    · go_simp
                      with_reducible refine (HN1.out _).mono ?_
                      rintro e v19 ⟨rfl, hb⟩
                      have HS19 := two_next HS18 hb
                      have HX19_6 := Lib.hid (HX18_6.out.later hb)
                      have HB19 := Lib.hid (HB18.out.trans (hb.mono HB18.out.size))
                      clear hb
                      refine hK _ _ (fun _ => HS19) ?_
                      clear hK K
                      try simp only [Act.put, List.setIfInBounds_toArray, List.set_cons_zero, List.set_cons_succ]
                      refine wpAnyL_one (j := 9) (by kernel_rfl) rfl (by rfl) (fun K hK => ?_) 
                      refine oper_wp_val (v := .pointer (some ⟨v19.heap.size, 0, none⟩)) (w' := v19.alloc (.cells #[.int .i64 0, .bool false] 93)) (by go_simp) ?_
                      have hba : Below v19.heap.size v19 (v19.alloc (.cells #[.int .i64 0, .bool false] 93)) := (Below.refl _ _).alloc (Nat.le_refl _) _
                      have HS20 := two_next HS19 hba
                      have HX20_6 := Lib.hid (HX19_6.out.later hba)
                      have HX20_7 := Lib.hid (Box2.new v19 93 (.int .i64 0) (.bool false))
                      have HB20 := Lib.hid (HB19.out.trans (hba.mono HB19.out.size))
                      have hl20 : wr.heap.size ≤ v19.heap.size := HB19.out.size
                      have hq20_6 : g17 < v19.heap.size := (Array.getElem?_eq_some_iff.1 HX19_6.out).1
                      obtain ⟨g20, hg20⟩ : ∃ g, v19.heap.size = g := ⟨_, rfl⟩
                      obtain ⟨v20, hv20⟩ : ∃ v, v19.alloc (.cells #[.int .i64 0, .bool false] 93) = v := ⟨_, rfl⟩
                      rw [hv20] at HS20 HB20 HX20_7 HX20_6 ⊢
                      rw [hg20] at HX20_7 hl20 hq20_6 ⊢
                      clear hba hg20 hv20
                      refine hK _ _ (fun _ => HS20) ?_
                      clear hK K
                      try simp only [Act.put, List.setIfInBounds_toArray, List.set_cons_zero, List.set_cons_succ]
                      have hne : g17 ≠ g20 := by omega
                      obtain ⟨z0, z1, f0, f1⟩ := HX20_6.out.at
                      have hy := box2_set hne HX20_7.out (.int .i64 n0) (.bool o0)
                      obtain ⟨y0, y1, e0, e1⟩ := hy.at
                      have HM := Lib.hid (met_of (n0 := n0) (o0 := o0) (n1 := n1) (o1 := o1) HB20.out HX20_6.out HX20_7.out hne (by omega) (by omega))
                      have HSL := two_set HS20 hbb (show wr.heap.size ≤ g17 by omega) (.int .i64 n0) (.bool o0)
                      clear hy
                      refine wpAnyL_one (j := 10) (by kernel_rfl) rfl (by rfl) (fun K hK => ?_)
                      go_simp
                      refine hK _ _ (fun _ => HSL) ?_
                      clear hK K
                      try simp only [Act.put, List.setIfInBounds_toArray, List.set_cons_zero, List.set_cons_succ]
                      refine wpAnyL_one (j := 11) (by kernel_rfl) rfl (by rfl) (fun K hK => ?_)
                      go_simp
                      refine hK _ _ (fun h => (h rfl).elim) ?_
                      clear hK K
                      try simp only [Act.put, List.setIfInBounds_toArray, List.set_cons_zero, List.set_cons_succ]
                      refine wpAnyL_done (by kernel_rfl) ?_ _
                      go_wp2_with fail
                      go_meet
                      case rel => exact HM.out
                    · refine oper_wp_val (v := .pointer (some ⟨v18.heap.size, 0, none⟩)) (w' := v18.alloc (.cells #[.int .i64 0, .bool false] 93)) (by go_simp) ?_
                      have hba : Below v18.heap.size v18 (v18.alloc (.cells #[.int .i64 0, .bool false] 93)) := (Below.refl _ _).alloc (Nat.le_refl _) _
                      have HS21 := two_next HS18 hba
                      have HX21_6 := Lib.hid (HX18_6.out.later hba)
                      have HX21_7 := Lib.hid (Box2.new v18 93 (.int .i64 0) (.bool false))
                      have HB21 := Lib.hid (HB18.out.trans (hba.mono HB18.out.size))
                      have hl21 : wr.heap.size ≤ v18.heap.size := HB18.out.size
                      have hq21_6 : g17 < v18.heap.size := (Array.getElem?_eq_some_iff.1 HX18_6.out).1
                      obtain ⟨g21, hg21⟩ : ∃ g, v18.heap.size = g := ⟨_, rfl⟩
                      obtain ⟨v21, hv21⟩ : ∃ v, v18.alloc (.cells #[.int .i64 0, .bool false] 93) = v := ⟨_, rfl⟩
                      rw [hv21] at HS21 HB21 HX21_7 HX21_6 ⊢
                      rw [hg21] at HX21_7 hl21 hq21_6 ⊢
                      clear hba hg21 hv21
                      refine hK _ _ (fun _ => HS21) ?_
                      clear hK K
                      try simp only [Act.put, List.setIfInBounds_toArray, List.set_cons_zero, List.set_cons_succ]
                      refine wpAnyL_one (j := 7) (by kernel_rfl) rfl (by rfl) (fun K hK => ?_) 
                      go_simp
                      with_reducible refine (HN1.out _).mono ?_
                      rintro e v22 ⟨rfl, hb⟩
                      have HS22 := two_next HS21 hb
                      have HX22_6 := Lib.hid (HX21_6.out.later hb)
                      have HX22_7 := Lib.hid (HX21_7.out.later hb)
                      have HB22 := Lib.hid (HB21.out.trans (hb.mono HB21.out.size))
                      clear hb
                      refine hK _ _ (fun _ => HS22) ?_
                      clear hK K
                      try simp only [Act.put, List.setIfInBounds_toArray, List.set_cons_zero, List.set_cons_succ]
                      have hne : g17 ≠ g21 := by omega
                      obtain ⟨z0, z1, f0, f1⟩ := HX22_6.out.at
                      have hy := box2_set hne HX22_7.out (.int .i64 n0) (.bool o0)
                      obtain ⟨y0, y1, e0, e1⟩ := hy.at
                      have HM := Lib.hid (met_of (n0 := n0) (o0 := o0) (n1 := n1) (o1 := o1) HB22.out HX22_6.out HX22_7.out hne (by omega) (by omega))
                      have HSL := two_set HS22 hbb (show wr.heap.size ≤ g17 by omega) (.int .i64 n0) (.bool o0)
                      clear hy
                      refine wpAnyL_one (j := 10) (by kernel_rfl) rfl (by rfl) (fun K hK => ?_)
                      go_simp
                      refine hK _ _ (fun _ => HSL) ?_
                      clear hK K
                      try simp only [Act.put, List.setIfInBounds_toArray, List.set_cons_zero, List.set_cons_succ]
                      refine wpAnyL_one (j := 11) (by kernel_rfl) rfl (by rfl) (fun K hK => ?_)
                      go_simp
                      refine hK _ _ (fun h => (h rfl).elim) ?_
                      clear hK K
                      try simp only [Act.put, List.setIfInBounds_toArray, List.set_cons_zero, List.set_cons_succ]
                      refine wpAnyL_done (by kernel_rfl) ?_ _
                      go_wp2_with fail
                      go_meet
                      case rel => exact HM.out
                  · refine oper_wp_val (v := .pointer (some ⟨v17.heap.size, 0, none⟩)) (w' := v17.alloc (.cells #[.int .i64 0, .bool false] 93)) (by go_simp) ?_
                    have hba : Below v17.heap.size v17 (v17.alloc (.cells #[.int .i64 0, .bool false] 93)) := (Below.refl _ _).alloc (Nat.le_refl _) _
                    have HS23 := two_next HS17 hba
                    have HX23_6 := Lib.hid (HX17_6.out.later hba)
                    have HX23_7 := Lib.hid (Box2.new v17 93 (.int .i64 0) (.bool false))
                    have HB23 := Lib.hid (HB17.out.trans (hba.mono HB17.out.size))
                    have hl23 : wr.heap.size ≤ v17.heap.size := HB17.out.size
                    have hq23_6 : g17 < v17.heap.size := (Array.getElem?_eq_some_iff.1 HX17_6.out).1
                    obtain ⟨g23, hg23⟩ : ∃ g, v17.heap.size = g := ⟨_, rfl⟩
                    obtain ⟨v23, hv23⟩ : ∃ v, v17.alloc (.cells #[.int .i64 0, .bool false] 93) = v := ⟨_, rfl⟩
                    rw [hv23] at HS23 HB23 HX23_7 HX23_6 ⊢
                    rw [hg23] at HX23_7 hl23 hq23_6 ⊢
                    clear hba hg23 hv23
                    refine hK _ _ (fun _ => HS23) ?_
                    clear hK K
                    try simp only [Act.put, List.setIfInBounds_toArray, List.set_cons_zero, List.set_cons_succ]
                    refine wpAnyL_one (j := 3) (by kernel_rfl) rfl (by rfl) (fun K hK => ?_) 
                    go_simp
                    with_reducible refine (HN0.out _).mono ?_
                    rintro e v24 ⟨rfl, hb⟩
                    have HS24 := two_next HS23 hb
                    have HX24_6 := Lib.hid (HX23_6.out.later hb)
                    have HX24_7 := Lib.hid (HX23_7.out.later hb)
                    have HB24 := Lib.hid (HB23.out.trans (hb.mono HB23.out.size))
                    clear hb
                    refine hK _ _ (fun _ => HS24) ?_
                    clear hK K
                    try simp only [Act.put, List.setIfInBounds_toArray, List.set_cons_zero, List.set_cons_succ]
                    refine wpAnyL_one (j := 7) (by kernel_rfl) rfl (by rfl) (fun K hK => ?_) 
                    go_simp
                    with_reducible refine (HN1.out _).mono ?_
                    rintro e v25 ⟨rfl, hb⟩
                    have HS25 := two_next HS24 hb
                    have HX25_6 := Lib.hid (HX24_6.out.later hb)
                    have HX25_7 := Lib.hid (HX24_7.out.later hb)
                    have HB25 := Lib.hid (HB24.out.trans (hb.mono HB24.out.size))
                    clear hb
                    refine hK _ _ (fun _ => HS25) ?_
                    clear hK K
                    try simp only [Act.put, List.setIfInBounds_toArray, List.set_cons_zero, List.set_cons_succ]
                    have hne : g17 ≠ g23 := by omega
                    obtain ⟨z0, z1, f0, f1⟩ := HX25_6.out.at
                    have hy := box2_set hne HX25_7.out (.int .i64 n0) (.bool o0)
                    obtain ⟨y0, y1, e0, e1⟩ := hy.at
                    have HM := Lib.hid (met_of (n0 := n0) (o0 := o0) (n1 := n1) (o1 := o1) HB25.out HX25_6.out HX25_7.out hne (by omega) (by omega))
                    have HSL := two_set HS25 hbb (show wr.heap.size ≤ g17 by omega) (.int .i64 n0) (.bool o0)
                    clear hy
                    refine wpAnyL_one (j := 10) (by kernel_rfl) rfl (by rfl) (fun K hK => ?_)
                    go_simp
                    refine hK _ _ (fun _ => HSL) ?_
                    clear hK K
                    try simp only [Act.put, List.setIfInBounds_toArray, List.set_cons_zero, List.set_cons_succ]
                    refine wpAnyL_one (j := 11) (by kernel_rfl) rfl (by rfl) (fun K hK => ?_)
                    go_simp
                    refine hK _ _ (fun h => (h rfl).elim) ?_
                    clear hK K
                    try simp only [Act.put, List.setIfInBounds_toArray, List.set_cons_zero, List.set_cons_succ]
                    refine wpAnyL_done (by kernel_rfl) ?_ _
                    go_wp2_with fail
                    go_meet
                    case rel => exact HM.out
                · refine oper_wp_val (v := .pointer (some ⟨wr.drew.heap.size, 0, none⟩)) (w' := wr.drew.alloc (.cells #[.int .i64 0, .bool false] 93)) (by go_simp) ?_
                  have hba : Below wr.drew.heap.size wr.drew (wr.drew.alloc (.cells #[.int .i64 0, .bool false] 93)) := (Below.refl _ _).alloc (Nat.le_refl _) _
                  have HS26 := two_next HS0 hba
                  have HX26_7 := Lib.hid (Box2.new wr.drew 93 (.int .i64 0) (.bool false))
                  have HB26 := Lib.hid (HB0.out.trans (hba.mono HB0.out.size))
                  have hl26 : wr.heap.size ≤ wr.drew.heap.size := HB0.out.size
                  obtain ⟨g26, hg26⟩ : ∃ g, wr.drew.heap.size = g := ⟨_, rfl⟩
                  obtain ⟨v26, hv26⟩ : ∃ v, wr.drew.alloc (.cells #[.int .i64 0, .bool false] 93) = v := ⟨_, rfl⟩
                  rw [hv26] at HS26 HB26 HX26_7 ⊢
                  rw [hg26] at HX26_7 hl26 ⊢
                  clear hba hg26 hv26
                  refine hK _ _ (fun _ => HS26) ?_
                  clear hK K
                  try simp only [Act.put, List.setIfInBounds_toArray, List.set_cons_zero, List.set_cons_succ]
                  refine wpAnyL_two (i := 3) (j := 8) (by kernel_rfl) rfl rfl (by rfl) (by rfl) (fun K hK => ?_) (fun K hK => ?_) 
                  · go_simp
                    with_reducible refine (HN0.out _).mono ?_
                    rintro e v27 ⟨rfl, hb⟩
                    have HS27 := two_next HS26 hb
                    have HX27_7 := Lib.hid (HX26_7.out.later hb)
                    have HB27 := Lib.hid (HB26.out.trans (hb.mono HB26.out.size))
                    clear hb
                    refine hK _ _ (fun _ => HS27) ?_
                    clear hK K
                    try simp only [Act.put, List.setIfInBounds_toArray, List.set_cons_zero, List.set_cons_succ]
                    refine wpAnyL_two (i := 7) (j := 8) (by kernel_rfl) rfl rfl (by rfl) (by rfl) (fun K hK => ?_) (fun K hK => ?_) 
                    · go_simp
                      with_reducible refine (HN1.out _).mono ?_
                      rintro e v28 ⟨rfl, hb⟩
                      have HS28 := two_next HS27 hb
                      have HX28_7 := Lib.hid (HX27_7.out.later hb)
                      have HB28 := Lib.hid (HB27.out.trans (hb.mono HB27.out.size))
                      clear hb
                      refine hK _ _ (fun _ => HS28) ?_
                      clear hK K
                      try simp only [Act.put, List.setIfInBounds_toArray, List.set_cons_zero, List.set_cons_succ]
                      refine wpAnyL_one (j := 8) (by kernel_rfl) rfl (by rfl) (fun K hK => ?_) 
                      refine oper_wp_val (v := .pointer (some ⟨v28.heap.size, 0, none⟩)) (w' := v28.alloc (.cells #[.int .i64 0, .bool false] 93)) (by go_simp) ?_
                      have hba : Below v28.heap.size v28 (v28.alloc (.cells #[.int .i64 0, .bool false] 93)) := (Below.refl _ _).alloc (Nat.le_refl _) _
                      have HS29 := two_next HS28 hba
                      have HX29_7 := Lib.hid (HX28_7.out.later hba)
                      have HX29_6 := Lib.hid (Box2.new v28 93 (.int .i64 0) (.bool false))
                      have HB29 := Lib.hid (HB28.out.trans (hba.mono HB28.out.size))
                      have hl29 : wr.heap.size ≤ v28.heap.size := HB28.out.size
                      have hq29_7 : g26 < v28.heap.size := (Array.getElem?_eq_some_iff.1 HX28_7.out).1
                      obtain ⟨g29, hg29⟩ : ∃ g, v28.heap.size = g := ⟨_, rfl⟩
                      obtain ⟨v29, hv29⟩ : ∃ v, v28.alloc (.cells #[.int .i64 0, .bool false] 93) = v := ⟨_, rfl⟩
                      rw [hv29] at HS29 HB29 HX29_6 HX29_7 ⊢
                      rw [hg29] at HX29_6 hl29 hq29_7 ⊢
                      clear hba hg29 hv29
                      refine hK _ _ (fun _ => HS29) ?_
                      clear hK K
                      try simp only [Act.put, List.setIfInBounds_toArray, List.set_cons_zero, List.set_cons_succ]
                      have hne : g29 ≠ g26 := by omega
                      obtain ⟨z0, z1, f0, f1⟩ := HX29_6.out.at
                      have hy := box2_set hne HX29_7.out (.int .i64 n0) (.bool o0)
                      obtain ⟨y0, y1, e0, e1⟩ := hy.at
                      have HM := Lib.hid (met_of (n0 := n0) (o0 := o0) (n1 := n1) (o1 := o1) HB29.out HX29_6.out HX29_7.out hne (by omega) (by omega))
                      have HSL := two_set HS29 hbb (show wr.heap.size ≤ g29 by omega) (.int .i64 n0) (.bool o0)
                      clear hy
                      refine wpAnyL_one (j := 10) (by kernel_rfl) rfl (by rfl) (fun K hK => ?_)
                      go_simp
                      refine hK _ _ (fun _ => HSL) ?_
                      clear hK K
                      try simp only [Act.put, List.setIfInBounds_toArray, List.set_cons_zero, List.set_cons_succ]
                      refine wpAnyL_one (j := 11) (by kernel_rfl) rfl (by rfl) (fun K hK => ?_)
                      go_simp
                      refine hK _ _ (fun h => (h rfl).elim) ?_
                      clear hK K
                      try simp only [Act.put, List.setIfInBounds_toArray, List.set_cons_zero, List.set_cons_succ]
                      refine wpAnyL_done (by kernel_rfl) ?_ _
                      go_wp2_with fail
                      go_meet
                      case rel => exact HM.out
                    · refine oper_wp_val (v := .pointer (some ⟨v27.heap.size, 0, none⟩)) (w' := v27.alloc (.cells #[.int .i64 0, .bool false] 93)) (by go_simp) ?_
                      have hba : Below v27.heap.size v27 (v27.alloc (.cells #[.int .i64 0, .bool false] 93)) := (Below.refl _ _).alloc (Nat.le_refl _) _
                      have HS30 := two_next HS27 hba
                      have HX30_7 := Lib.hid (HX27_7.out.later hba)
                      have HX30_6 := Lib.hid (Box2.new v27 93 (.int .i64 0) (.bool false))
                      have HB30 := Lib.hid (HB27.out.trans (hba.mono HB27.out.size))
                      have hl30 : wr.heap.size ≤ v27.heap.size := HB27.out.size
                      have hq30_7 : g26 < v27.heap.size := (Array.getElem?_eq_some_iff.1 HX27_7.out).1
                      obtain ⟨g30, hg30⟩ : ∃ g, v27.heap.size = g := ⟨_, rfl⟩
                      obtain ⟨v30, hv30⟩ : ∃ v, v27.alloc (.cells #[.int .i64 0, .bool false] 93) = v := ⟨_, rfl⟩
                      rw [hv30] at HS30 HB30 HX30_6 HX30_7 ⊢
                      rw [hg30] at HX30_6 hl30 hq30_7 ⊢
                      clear hba hg30 hv30
                      refine hK _ _ (fun _ => HS30) ?_
                      clear hK K
                      try simp only [Act.put, List.setIfInBounds_toArray, List.set_cons_zero, List.set_cons_succ]
                      refine wpAnyL_one (j := 7) (by kernel_rfl) rfl (by rfl) (fun K hK => ?_) 
                      go_simp
                      with_reducible refine (HN1.out _).mono ?_
                      rintro e v31 ⟨rfl, hb⟩
                      have HS31 := two_next HS30 hb
                      have HX31_7 := Lib.hid (HX30_7.out.later hb)
                      have HX31_6 := Lib.hid (HX30_6.out.later hb)
                      have HB31 := Lib.hid (HB30.out.trans (hb.mono HB30.out.size))
                      clear hb
                      refine hK _ _ (fun _ => HS31) ?_
                      clear hK K
                      try simp only [Act.put, List.setIfInBounds_toArray, List.set_cons_zero, List.set_cons_succ]
                      have hne : g30 ≠ g26 := by omega
                      obtain ⟨z0, z1, f0, f1⟩ := HX31_6.out.at
                      have hy := box2_set hne HX31_7.out (.int .i64 n0) (.bool o0)
                      obtain ⟨y0, y1, e0, e1⟩ := hy.at
                      have HM := Lib.hid (met_of (n0 := n0) (o0 := o0) (n1 := n1) (o1 := o1) HB31.out HX31_6.out HX31_7.out hne (by omega) (by omega))
                      have HSL := two_set HS31 hbb (show wr.heap.size ≤ g30 by omega) (.int .i64 n0) (.bool o0)
                      clear hy
                      refine wpAnyL_one (j := 10) (by kernel_rfl) rfl (by rfl) (fun K hK => ?_)
                      go_simp
                      refine hK _ _ (fun _ => HSL) ?_
                      clear hK K
                      try simp only [Act.put, List.setIfInBounds_toArray, List.set_cons_zero, List.set_cons_succ]
                      refine wpAnyL_one (j := 11) (by kernel_rfl) rfl (by rfl) (fun K hK => ?_)
                      go_simp
                      refine hK _ _ (fun h => (h rfl).elim) ?_
                      clear hK K
                      try simp only [Act.put, List.setIfInBounds_toArray, List.set_cons_zero, List.set_cons_succ]
                      refine wpAnyL_done (by kernel_rfl) ?_ _
                      go_wp2_with fail
                      go_meet
                      case rel => exact HM.out
                  · refine oper_wp_val (v := .pointer (some ⟨v26.heap.size, 0, none⟩)) (w' := v26.alloc (.cells #[.int .i64 0, .bool false] 93)) (by go_simp) ?_
                    have hba : Below v26.heap.size v26 (v26.alloc (.cells #[.int .i64 0, .bool false] 93)) := (Below.refl _ _).alloc (Nat.le_refl _) _
                    have HS32 := two_next HS26 hba
                    have HX32_7 := Lib.hid (HX26_7.out.later hba)
                    have HX32_6 := Lib.hid (Box2.new v26 93 (.int .i64 0) (.bool false))
                    have HB32 := Lib.hid (HB26.out.trans (hba.mono HB26.out.size))
                    have hl32 : wr.heap.size ≤ v26.heap.size := HB26.out.size
                    have hq32_7 : g26 < v26.heap.size := (Array.getElem?_eq_some_iff.1 HX26_7.out).1
                    obtain ⟨g32, hg32⟩ : ∃ g, v26.heap.size = g := ⟨_, rfl⟩
                    obtain ⟨v32, hv32⟩ : ∃ v, v26.alloc (.cells #[.int .i64 0, .bool false] 93) = v := ⟨_, rfl⟩
                    rw [hv32] at HS32 HB32 HX32_6 HX32_7 ⊢
                    rw [hg32] at HX32_6 hl32 hq32_7 ⊢
                    clear hba hg32 hv32
                    refine hK _ _ (fun _ => HS32) ?_
                    clear hK K
                    try simp only [Act.put, List.setIfInBounds_toArray, List.set_cons_zero, List.set_cons_succ]
                    refine wpAnyL_one (j := 3) (by kernel_rfl) rfl (by rfl) (fun K hK => ?_) 
                    go_simp
                    with_reducible refine (HN0.out _).mono ?_
                    rintro e v33 ⟨rfl, hb⟩
                    have HS33 := two_next HS32 hb
                    have HX33_7 := Lib.hid (HX32_7.out.later hb)
                    have HX33_6 := Lib.hid (HX32_6.out.later hb)
                    have HB33 := Lib.hid (HB32.out.trans (hb.mono HB32.out.size))
                    clear hb
                    refine hK _ _ (fun _ => HS33) ?_
                    clear hK K
                    try simp only [Act.put, List.setIfInBounds_toArray, List.set_cons_zero, List.set_cons_succ]
                    refine wpAnyL_one (j := 7) (by kernel_rfl) rfl (by rfl) (fun K hK => ?_) 
                    go_simp
                    with_reducible refine (HN1.out _).mono ?_
                    rintro e v34 ⟨rfl, hb⟩
                    have HS34 := two_next HS33 hb
                    have HX34_7 := Lib.hid (HX33_7.out.later hb)
                    have HX34_6 := Lib.hid (HX33_6.out.later hb)
                    have HB34 := Lib.hid (HB33.out.trans (hb.mono HB33.out.size))
                    clear hb
                    refine hK _ _ (fun _ => HS34) ?_
                    clear hK K
                    try simp only [Act.put, List.setIfInBounds_toArray, List.set_cons_zero, List.set_cons_succ]
                    have hne : g32 ≠ g26 := by omega
                    obtain ⟨z0, z1, f0, f1⟩ := HX34_6.out.at
                    have hy := box2_set hne HX34_7.out (.int .i64 n0) (.bool o0)
                    obtain ⟨y0, y1, e0, e1⟩ := hy.at
                    have HM := Lib.hid (met_of (n0 := n0) (o0 := o0) (n1 := n1) (o1 := o1) HB34.out HX34_6.out HX34_7.out hne (by omega) (by omega))
                    have HSL := two_set HS34 hbb (show wr.heap.size ≤ g32 by omega) (.int .i64 n0) (.bool o0)
                    clear hy
                    refine wpAnyL_one (j := 10) (by kernel_rfl) rfl (by rfl) (fun K hK => ?_)
                    go_simp
                    refine hK _ _ (fun _ => HSL) ?_
                    clear hK K
                    try simp only [Act.put, List.setIfInBounds_toArray, List.set_cons_zero, List.set_cons_succ]
                    refine wpAnyL_one (j := 11) (by kernel_rfl) rfl (by rfl) (fun K hK => ?_)
                    go_simp
                    refine hK _ _ (fun h => (h rfl).elim) ?_
                    clear hK K
                    try simp only [Act.put, List.setIfInBounds_toArray, List.set_cons_zero, List.set_cons_succ]
                    refine wpAnyL_done (by kernel_rfl) ?_ _
                    go_wp2_with fail
                    go_meet
                    case rel => exact HM.out
              case rest =>
                obtain ⟨x6, x7, rfl, rfl, hx6, hx7, hbw⟩ := hcut
                have HBW := Lib.hid (HB2.out.trans (hbw.mono HB2.out.size))
                have HXW := Lib.hid (HX2.out.later (n := wr.heap.size) hbw (by omega))
                have g0 := (hbw.cell (p := ⟨b, off, none⟩) hbb).trans HC0.out
                obtain ⟨a0, a1, -, -⟩ := hx6.at
                obtain ⟨b0, b1, -, -⟩ := hx7.at
                obtain ⟨⟨z0, z1, z2⟩, f0, f1, f2⟩ := HXW.out.at
                have HEND := Lib.hid (sent_end HXW.out HBW.out [] 0 0)
                have HENDY := Lib.hid (sent_end HXW.out HBW.out x n0 n1)
                clear hbw hx6 hx7 HN0 HN1 HX2 HB2
                cases o0 with
                | false =>
                  have HZ := Lib.hid (HR4.out (.inl rfl))
                  go_wp2_with fail
                  exact bodyPost_ret (results_cellT rfl rfl HEND.out.1.load) rfl ⟨[], 0, 0, HZ.out, rfl, HEND.out.2⟩
                | true =>
                  cases o1 with
                  | false =>
                    have HZ := Lib.hid (HR4.out (.inr (.inl rfl)))
                    go_wp2_with fail
                    exact bodyPost_ret (results_cellT rfl rfl HEND.out.1.load) rfl ⟨[], 0, 0, HZ.out, rfl, HEND.out.2⟩
                  | true =>
                    by_cases c1 : n0 < 0
                    · have HZ := Lib.hid (HR4.out (.inr (.inr (.inl c1))))
                      go_wp2_with fail
                      exact bodyPost_ret (results_cellT rfl rfl HEND.out.1.load) rfl ⟨[], 0, 0, HZ.out, rfl, HEND.out.2⟩
                    · by_cases c2 : 16384 ≤ n0
                      · have HZ := Lib.hid (HR4.out (.inr (.inr (.inr (.inl c2)))))
                        go_wp2_with fail
                        exact bodyPost_ret (results_cellT rfl rfl HEND.out.1.load) rfl ⟨[], 0, 0, HZ.out, rfl, HEND.out.2⟩
                      · by_cases c3 : n1 < 0
                        · have HZ := Lib.hid (HR4.out (.inr (.inr (.inr (.inr (.inl c3))))))
                          go_wp2_with fail
                          exact bodyPost_ret (results_cellT rfl rfl HEND.out.1.load) rfl ⟨[], 0, 0, HZ.out, rfl, HEND.out.2⟩
                        · by_cases c4 : 8 ≤ n1
                          · have HZ := Lib.hid (HR4.out (.inr (.inr (.inr (.inr (.inr c4))))))
                            go_wp2_with fail
                            exact bodyPost_ret (results_cellT rfl rfl HEND.out.1.load) rfl ⟨[], 0, 0, HZ.out, rfl, HEND.out.2⟩
                          · have HZ := Lib.hid (HR5.out HRW.out rfl rfl (by omega) (by omega) (by omega) (by omega))
                            go_upto_region 14 with (fail)
                            go_region
                            go_wp2_with fail
                            exact bodyPost_ret (results_cellT rfl rfl (SentAt.drew HENDY.out.1).load) rfl ⟨x, n0, n1, HZ.out, rfl, HENDY.out.2.drew⟩
          · have hxa : (x == [77, 79, 86, 69, 68]) = false := by rw [beq_eq_false_iff_ne]; exact fun e => hx0 (.inl e)
            have hxb : (x == [65, 83, 75]) = false := by rw [beq_eq_false_iff_ne]; exact fun e => hx0 (.inr e)
            have HZ := Lib.hid (HR3.out (fun e => hx0 (.inl e)) (fun e => hx0 (.inr e)))
            clear HR3 HR4 HR5 hx0
            obtain ⟨⟨z0, z1, z2⟩, f0, f1, f2⟩ := HX2.out.at
            have HEND := Lib.hid (sent_end HX2.out HB2.out [] 0 0)
            go_wp2_with fail
            exact bodyPost_ret (results_cellT rfl rfl HEND.out.1.load) rfl ⟨[], 0, 0, HZ.out, rfl, HEND.out.2⟩
        · have HZ := Lib.hid (r1 h3)
          have hn3 : ((ws.length : Int) != 3) = true := by rw [bne_iff_ne]; omega
          have hwd0 := hwd.1
          clear hw hwl HI r1 r2 h3 HQ
          obtain ⟨⟨z0, z1, z2⟩, f0, f1, f2⟩ := HX2.out.at
          have HEND := Lib.hid (sent_end HX2.out HB2.out [] 0 0)
          go_wp2_with fail
          exact bodyPost_ret (results_cellT rfl rfl HEND.out.1.load) rfl ⟨[], 0, 0, HZ.out, rfl, HEND.out.2⟩
end Go.Proofs.YtahmddopbmjepaaDoor
