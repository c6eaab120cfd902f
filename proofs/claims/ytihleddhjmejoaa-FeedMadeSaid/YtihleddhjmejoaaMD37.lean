/- The contracts of the reference's MayEffect and MayEffects (11.1). The contracts of the program's first, alone, copied (15). -/
import Derived.Test.YtihleddhjmejoaaMD05
import Derived.Test.YtihleddhjmejoaaMD10
import Derived.Test.YtihleddhjmejoaaMD09
import Derived.Test.YtihleddhjmejoaaMD36
namespace Go.Proofs.Ytihleddhjmejoaa
open Go.RowKit Go.Shelf
attribute [local go_sem] Oper.semAt_some
set_option linter.unusedVariables false
set_option linter.unusedSimpArgs false

/-- an effect as a value. -/
def Le.v (e : Le) : Value := .agg #[.string ⟨e.key.toArray⟩, .bool e.gone, .int .i64 e.it.k, .string ⟨e.it.s.toArray⟩, .slice e.it.aF e.it.fs.length e.it.cF, .slice e.it.aL e.it.ws.length e.it.cL, .int .i64 e.it.x]
/-- .. in a box. -/
theorem effBox (w : World) (e : Le) : EAt (w.alloc (.cells #[.string ⟨e.key.toArray⟩, .bool e.gone, .int .i64 e.it.k, .string ⟨e.it.s.toArray⟩, .slice e.it.aF e.it.fs.length e.it.cF, .slice e.it.aL e.it.ws.length e.it.cL, .int .i64 e.it.x] 61)) w.heap.size 0 e := by
  have h := World.alloc_heap_new w (.cells #[.string ⟨e.key.toArray⟩, .bool e.gone, .int .i64 e.it.k, .string ⟨e.it.s.toArray⟩, .slice e.it.aF e.it.fs.length e.it.cF, .slice e.it.aL e.it.ws.length e.it.cL, .int .i64 e.it.x] 61)
  have g := fun j => cell_of_row _ w.heap.size j _ 61 (0, 0) h
  exact ⟨(g 0).trans rfl, (g 1).trans rfl, (g 2).trans rfl, (g 3).trans rfl, (g 4).trans rfl, (g 5).trans rfl, (g 6).trans rfl⟩

set_option maxRecDepth 100000 in
set_option maxHeartbeats 4000000 in
theorem mayEffect_any (e : Le) (w : World) (hE : e.Ok w) : Calls Try.prog 29 #[e.v] w fun r W => r = .returned (.bool (Db.mayE e.e)) ∧ Below w.heap.size w W := by
  obtain ⟨hkl, hs, hF, hL, -⟩ := hE
  have hbx := effBox w e
  obtain ⟨key, gone, k, s, aF, fs, cF, aL, ws, cL, x⟩ := e
  obtain ⟨c0, c1, c2, c3, c4, c5, c6⟩ := hbx
  have hb0 := (Below.refl _ w).alloc (Nat.le_refl _) (.cells #[.string ⟨key.toArray⟩, .bool gone, .int .i64 k, .string ⟨s.toArray⟩, .slice aF fs.length cF, .slice aL ws.length cL, .int .i64 x] 61)
  have hM := refMay_any k x s aF cF fs aL cL ws _ (hF.later hb0) (hL.later hb0)
  simp only [itv] at hM
  have HB := Lib.hid hb0
  simp only [Nat.zero_add] at c0 c1 c2 c3 c4 c5 c6 hkl
  have HQ := Lib.hid (show Db.mayE (Le.e ⟨key, gone, k, s, aF, fs, cF, aL, ws, cL, x⟩) = (decide (key.length ≤ 40) && (gone || It.mayB ⟨k, s, fs, ws, x⟩)) from rfl)
  generalize Db.mayE (Le.e ⟨key, gone, k, s, aF, fs, cF, aL, ws, cL, x⟩) = R at *
  unfold Le.v
  dsimp only
  have HM := Lib.hid hM
  clear hM hF hL hs hb0
  by_cases hl : key.length ≤ 40
  · have b1 : (key.length : Int) ≤ 40 := by omega
    rw [decide_eq_true hl] at HQ
    clear hl hkl
    cases gone
    · go_enter Try.func29, Try.ntmps29
      go_wp2_with fail
      refine HM.out.mono ?_
      rintro r w1 ⟨rfl, hb⟩
      have HB2 := Lib.hid (HB.out.trans (hb.mono HB.out.size))
      clear hb
      go_wp2
      go_ret
      exact ⟨by rw [HQ.out]; rfl, HB2.out⟩
    · go_enter Try.func29, Try.ntmps29
      go_wp2_with fail
      go_ret
      exact ⟨by rw [HQ.out]; rfl, HB.out⟩
  · have b1 : ¬ (key.length : Int) ≤ 40 := by omega
    rw [decide_eq_false hl] at HQ
    clear hl hkl
    go_enter Try.func29, Try.ntmps29
    go_wp2_with fail
    go_ret
    exact ⟨by rw [HQ.out]; rfl, HB.out⟩

theorem all_snoc {α : Type} {f : α → Bool} {l : List α} {d : α} {n : Nat} (h : n < l.length) : (l.take (n + 1)).all f = ((l.take n).all f && f (l.getD n d)) := by
  rw [take_succ_getD (d := d) h, List.all_append]
  simp

set_option maxRecDepth 100000 in
set_option maxHeartbeats 4000000 in
theorem mayEffects_any (a : Option Addr) (cap : Nat) (es : List Le) (w : World) (hE : Efs w a cap es) (hn : es.length ≤ 1000000) :
    Calls Try.prog 12 #[.slice a es.length cap] w fun r W => r = .returned (.bool (es.all fun e => Db.mayE e.e)) ∧ Below w.heap.size w W := by
  have HE := Lib.hid hE
  have HF := Lib.hid (fun W (e : Le) (h : e.Ok W) => mayEffect_any e W h)
  have hnI : (es.length : Int) ≤ 1000000 := by omega
  clear hE
  go_enter Try.func12, Try.ntmps12
  go_wp2
  go_loopw [3] (fun i wr => ∃ n : Nat, n ≤ es.length ∧ i = .int .i64 n ∧ Hid ((es.take n).all (fun e => Db.mayE e.e) = true) ∧ Hid (Below w.heap.size w wr)) (fun i _ => es.length - (intOf i).toNat)
  case atStart => exact ⟨0, Nat.zero_le _, rfl, Lib.hid (by simp), Lib.hid (Below.refl _ _)⟩
  case round =>
    obtain ⟨n, hn', rfl, HJ, HG⟩ := hrel
    by_cases hlt : n < es.length
    · have hE1 := HE.out.later HG.out
      obtain ⟨b, off, rfl, hb, hc⟩ := hE1.get (by omega)
      obtain ⟨q0, q1, q2, q3, q4, q5, q6⟩ := hc n hlt
      have HC := Lib.hid (HF.out wr _ (hE1.at hlt))
      have HS := Lib.hid (all_snoc (f := fun e => Db.mayE e.e) (d := Le.zero) hlt)
      clear hc hE1
      unfold Le.v at HC
      obtain ⟨⟨key, gone, k, s, aF, fs, cF, aL, ws, cL, x⟩, hq⟩ : ∃ q, es.getD n Le.zero = q := ⟨_, rfl⟩
      rw [hq] at q0 q1 q2 q3 q4 q5 q6 HC HS
      clear hq
      simp only [] at q0 q1 q2 q3 q4 q5 q6
      have k0 : (0 : Int) ≤ (n : Int) := by omega
      have k1 : (n : Int) < (es.length : Int) := by omega
      cases hm : Db.mayE (Le.e ⟨key, gone, k, s, aF, fs, cF, aL, ws, cL, x⟩) with
      | true =>
        rw [hm] at HC
        have HS2 := Lib.hid (show (es.take (n + 1)).all (fun e => Db.mayE e.e) = true by rw [HS.out, HJ.out, hm]; rfl)
        clear HS hm
        go_wp2_with fail
        refine HC.out.mono ?_
        rintro r w1 ⟨rfl, hb1⟩
        have HB2 := Lib.hid (HG.out.trans (hb1.mono HG.out.size))
        clear hb1 q0 q1 q2 q3 q4 q5 q6
        go_wp2
        go_roundw
        case rel => exact ⟨n + 1, by omega, by go_num, HS2, HB2⟩
        case measure => simp [intOf]; omega
      | false =>
        rw [hm] at HC
        have HS2 := Lib.hid (show es.all (fun e => Db.mayE e.e) = false by
          rw [List.all_eq_false]
          refine ⟨es.getD n Le.zero, by rw [getD_eq hlt]; exact List.getElem_mem hlt, ?_⟩
          have h1 := HS.out
          rw [HJ.out, hm, Bool.true_and, all_snoc (d := Le.zero) hlt, HJ.out, Bool.true_and] at h1
          rw [h1]; simp)
        clear HS hm
        go_wp2_with fail
        refine HC.out.mono ?_
        rintro r w1 ⟨rfl, hb1⟩
        have HB2 := Lib.hid (HG.out.trans (hb1.mono HG.out.size))
        clear hb1 q0 q1 q2 q3 q4 q5 q6
        go_wp2
        go_ret
        exact ⟨by rw [HS2.out]; rfl, HB2.out⟩
    · obtain rfl : n = es.length := by omega
      rw [List.take_length] at HJ
      have k1 : ¬ (es.length : Int) < (es.length : Int) := by omega
      go_wp2
      go_ret
      exact ⟨by rw [HJ.out]; rfl, HG.out⟩
end Go.Proofs.Ytihleddhjmejoaa
namespace Go.Proofs.Ytihleddhjmejoaa
open Go.RowKit Go.Shelf
attribute [local go_sem] Oper.semAt_some
set_option linter.unusedVariables false
set_option linter.unusedSimpArgs false

set_option maxRecDepth 100000 in
set_option maxHeartbeats 2000000 in
theorem first_any (f : Fe) (w : World) (h0 : 0 ≤ f.off) (h1 : f.off ≤ 2305843009213693952) (hn : f.es.length ≤ 1000) :
    Calls Try.prog 39 #[f.v] w fun r W => r = .returned (.int .i64 (f.off - (f.es.length : Int))) ∧ Below w.heap.size w W := by
  obtain ⟨⟨c0, c1, c2, c3, c4, c5, c6⟩, -⟩ := (FeBox.new w f).at
  have HB := Lib.hid ((Below.refl _ w).alloc (Nat.le_refl _) f.o)
  obtain ⟨rn, re, off, a, es, c, pn, pe, unt⟩ := f
  have wr1 : IntKind.i64.wrap (off - (es.length : Int)) = off - (es.length : Int) := IntWalk.i64_in _ (by simp only at h0 h1 hn; omega)
  unfold Fe.o at c0 c1 c2 c3 c4 c5 c6 HB
  unfold Fe.v
  simp only at c0 c1 c2 c3 c4 c5 c6 HB h0 h1 hn ⊢
  go_enter Try.func39, Try.ntmps39
  go_wp2
  go_ret
  exact ⟨rfl, HB.out⟩

set_option maxRecDepth 100000 in
set_option maxHeartbeats 2000000 in
theorem alone_any (e : Le) (w : World) (hE : e.Ok w) :
    Calls Try.prog 59 #[e.v] w fun r W => ∃ b, r = .returned (.slice (some ⟨b, 0, none⟩) 1 1) ∧ Prs W (some ⟨b, 0, none⟩) 1 [⟨e.key, e.it⟩] ∧ Below w.heap.size w W := by
  obtain ⟨w1, hw1⟩ : ∃ w1, w.alloc (.cells #[.string ⟨e.key.toArray⟩, .bool e.gone, .int .i64 e.it.k, .string ⟨e.it.s.toArray⟩, .slice e.it.aF e.it.fs.length e.it.cF, .slice e.it.aL e.it.ws.length e.it.cL, .int .i64 e.it.x] 61) = w1 := ⟨_, rfl⟩
  have hb1 : Below w.heap.size w w1 := by rw [← hw1]; exact (Below.refl _ w).alloc (Nat.le_refl _) _
  have hx1 : EAt w1 w.heap.size 0 e := by rw [← hw1]; exact effBox w e
  obtain ⟨w2, hw2⟩ : ∃ w2, w1.alloc (.cells #[.string ⟨e.key.toArray⟩, .int .i64 e.it.k, .string ⟨e.it.s.toArray⟩, .slice e.it.aF e.it.fs.length e.it.cF, .slice e.it.aL e.it.ws.length e.it.cL, .int .i64 e.it.x] 65) = w2 := ⟨_, rfl⟩
  have hb2 : Below w1.heap.size w1 w2 := by rw [← hw2]; exact (Below.refl _ w1).alloc (Nat.le_refl _) _
  have hbb := hb1.trans (hb2.mono hb1.size)
  have hp2 := World.alloc_heap_new w1 (.cells #[.string ⟨e.key.toArray⟩, .int .i64 e.it.k, .string ⟨e.it.s.toArray⟩, .slice e.it.aF e.it.fs.length e.it.cF, .slice e.it.aL e.it.ws.length e.it.cL, .int .i64 e.it.x] 65)
  rw [hw2] at hp2
  have hP : Prs w2 (some ⟨w1.heap.size, 0, none⟩) 1 [⟨e.key, e.it⟩] := prs_one (p := ⟨e.key, e.it⟩) hp2 ⟨hE.1, hE.2.later hbb⟩
  have HF := Lib.hid (And.intro hP hbb)
  have HW1 := Lib.hid hw1
  have HW2 := Lib.hid hw2
  clear hE hb1 hb2 hbb hP hp2 hw1 hw2
  obtain ⟨key, gone, k, s, aF, fs, cF, aL, ws, cL, x⟩ := e
  obtain ⟨c0, c1, c2, c3, c4, c5, c6⟩ := hx1
  unfold Le.v
  simp only [Nat.zero_add] at c0 c1 c2 c3 c4 c5 c6 HF HW1 HW2 ⊢
  go_enter Try.func59, Try.ntmps59
  go_upto_region 1 with (fail)
  rw [HW1.out]
  go_wp2
  rw [HW2.out]
  go_ret
  exact ⟨_, rfl, HF.out.1, HF.out.2⟩

/-- an effect's box is stored into: whether it is gone. -/
theorem EffBox.gone {W : World} {B : Nat} {e : Le} (h : EffBox W B e) (g : Bool) : EffBox (W.setCell ⟨B, 1, none⟩ (.bool g)) B ⟨e.key, g, e.it⟩ := by
  unfold EffBox at h ⊢
  simp [World.setCell, Array.getElem?_modify, h]
/-- an effect is stored, whole. -/
def stEff (W : World) (B : Nat) (e : Le) : World := stEI ((W.setCell ⟨B, 0, none⟩ (.string ⟨e.key.toArray⟩)).setCell ⟨B, 1, none⟩ (.bool e.gone)) B e.it
theorem EffBox.stored {W : World} {B : Nat} {o : Le} (h : EffBox W B o) (e : Le) : EffBox (stEff W B e) B e := by
  unfold EffBox at h ⊢
  simp [stEff, stEI, World.setCell, Array.getElem?_modify, h]
theorem stEff_below {w W : World} {B n : Nat} (h : Below n w W) (hB : n ≤ B) (e : Le) : Below n w (stEff W B e) :=
  ((((((h.setCell (p := ⟨B, 0, none⟩) hB _).setCell (p := ⟨B, 1, none⟩) hB _).setCell (p := ⟨B, 2, none⟩) hB _).setCell (p := ⟨B, 3, none⟩) hB _).setCell (p := ⟨B, 4, none⟩) hB _).setCell (p := ⟨B, 5, none⟩) hB _).setCell (p := ⟨B, 6, none⟩) hB _
theorem stEff_block {w : World} {B b : Nat} (h : b ≠ B) (e : Le) : (stEff w B e).heap[b]? = w.heap[b]? := by
  unfold stEff
  rw [stEI_far h, Below.heap_setCell _ _ _ _ h, Below.heap_setCell _ _ _ _ h]
theorem loadEff {W : World} {B : Nat} {e : Le} (h : EffBox W B e) : (loadVar 61 ⟨B, 0, none⟩).run Try.prog W = .ok e.v W := by
  obtain ⟨⟨h0, h1, h2, h3, h4, h5, h6⟩, -⟩ := h.at
  simp [loadVar, go_sem, h0, h1, h2, h3, h4, h5, h6, Le.v]
/-- what copied tells: an equal effect, its item in memory made since. -/
def CpdOut (e : Le) (w : World) (r : Ending) (W : World) : Prop := ∃ e' : Le, r = .returned e'.v ∧ e'.e = e.e ∧ e'.Ok W ∧ Below w.heap.size w W ∧ ∀ g, g < w.heap.size → e'.it.Far (some g)

set_option maxRecDepth 100000 in
set_option maxHeartbeats 2000000 in
theorem copied_any (e : Le) (w : World) (hE : e.Ok w) (hsm : e.e.Sm) : Calls Try.prog 54 #[e.v] w (CpdOut e w) := by
  obtain ⟨w1, hw1⟩ : ∃ w1, w.alloc (.cells #[.string ⟨e.key.toArray⟩, .bool e.gone, .int .i64 e.it.k, .string ⟨e.it.s.toArray⟩, .slice e.it.aF e.it.fs.length e.it.cF, .slice e.it.aL e.it.ws.length e.it.cL, .int .i64 e.it.x] 61) = w1 := ⟨_, rfl⟩
  have hb1 : Below w.heap.size w w1 := by rw [← hw1]; exact (Below.refl _ w).alloc (Nat.le_refl _) _
  have hx1 : EffBox w1 w.heap.size e := by rw [← hw1]; exact EffBox.new w e
  have hs1 : w1.heap.size = w.heap.size + 1 := by rw [← hw1]; simp
  obtain ⟨w2, hw2⟩ : ∃ w2, w1.alloc (.cells #[.string ⟨#[]⟩, .bool false, .int .i64 0, .string ⟨#[]⟩, .slice none 0 0, .slice none 0 0, .int .i64 0] 61) = w2 := ⟨_, rfl⟩
  have hb2 : Below w1.heap.size w1 w2 := by rw [← hw2]; exact (Below.refl _ w1).alloc (Nat.le_refl _) _
  have hy2 : EffBox w2 (w.heap.size + 1) Le.zero := by rw [← hw2, ← hs1]; exact EffBox.new w1 Le.zero
  have hx2 : EffBox w2 w.heap.size e := (hb2.block _ hx1.lt).trans hx1
  have hbb := hb1.trans (hb2.mono hb1.size)
  have HW2 : Hid ((w.alloc (.cells #[.string ⟨e.key.toArray⟩, .bool e.gone, .int .i64 e.it.k, .string ⟨e.it.s.toArray⟩, .slice e.it.aF e.it.fs.length e.it.cF, .slice e.it.aL e.it.ws.length e.it.cL, .int .i64 e.it.x] 61)).alloc (.cells #[.string ⟨#[]⟩, .bool false, .int .i64 0, .string ⟨#[]⟩, .slice none 0 0, .slice none 0 0, .int .i64 0] 61) = w2) := Lib.hid (by rw [hw1, hw2])
  have HB := Lib.hid hbb
  have HAL := Lib.hid (alone_any e w2 ⟨hE.1, hE.2.later hbb⟩)
  have HALL := Lib.hid (fun b W (h : Prs W (some ⟨b, 0, none⟩) 1 [⟨e.key, e.it⟩]) => spall_new (some ⟨b, 0, none⟩) 1 [⟨e.key, e.it⟩] W h (by simp) (fun p hp => by rw [List.mem_singleton.1 hp]; exact hsm))
  have HY2 := Lib.hid hy2
  have HX2 := Lib.hid hx2
  have hB : w.heap.size < w2.heap.size := hx2.lt
  clear hE hb1 hb2 hw1 hw2 hx1 hbb hs1 hy2 hx2
  obtain ⟨⟨c0, c1, c2, c3, c4, c5, c6⟩, -⟩ := HX2.out.at
  obtain ⟨key, gone, k, s, aF, fs, cF, aL, ws, cL, x⟩ := e
  unfold Le.v at HAL ⊢
  simp only [List.length_singleton] at c0 c1 c2 c3 c4 c5 c6 HAL HALL HW2 ⊢
  go_enter Try.func54, Try.ntmps54
  go_upto_region 1 with (fail)
  rw [HW2.out]
  go_wp2_with fail
  refine HAL.out.mono ?_
  rintro r w3 ⟨b, rfl, hp3, hb3⟩
  have HB3 := Lib.hid hb3
  have HA3 := Lib.hid (HALL.out b w3 hp3)
  clear hp3 hb3 c0 c1 c2 c3 c4 c5 c6
  go_wp2_with fail
  refine HA3.out.mono ?_
  rintro r w4 ⟨a4, c4, es, rfl, hef, -, hm4, hb4, hf4⟩
  obtain ⟨e4, rfl⟩ : ∃ e4, es = [e4] := by
    have hl : es.length = 1 := by have := congrArg List.length hm4; simpa [Db.all] using this
    exact List.length_eq_one_iff.1 hl
  obtain ⟨b4, o4, rfl, hbl4, hc4⟩ := hef.get (by simp)
  have hc4 := hc4 0 (by simp)
  have hok4 : e4.Ok w4 := hef.2 e4 (by simp)
  have hf4 := hf4 e4 (by simp)
  have hm4 : e4.e = ⟨key, false, k, s, fs, ws, x⟩ := by simpa [Db.all, setE, Lp.p, Li.i] using hm4
  simp only [Nat.zero_mul, Nat.add_zero, List.getD_cons_zero, List.length_singleton] at hc4 ⊢
  obtain ⟨w5, hw5⟩ : ∃ w5, w4.alloc (.cells #[.string ⟨e4.key.toArray⟩, .bool e4.gone, .int .i64 e4.it.k, .string ⟨e4.it.s.toArray⟩, .slice e4.it.aF e4.it.fs.length e4.it.cF, .slice e4.it.aL e4.it.ws.length e4.it.cL, .int .i64 e4.it.x] 61) = w5 := ⟨_, rfl⟩
  have hb5 : Below w4.heap.size w4 w5 := by rw [← hw5]; exact (Below.refl _ w4).alloc (Nat.le_refl _) _
  have hx5 : EffBox w5 w4.heap.size e4 := by rw [← hw5]; exact EffBox.new w4 e4
  have h24 := HB3.out.trans (hb4.mono HB3.out.size)
  have h25 := h24.trans (hb5.mono h24.size)
  have hxg : EffBox w5 w.heap.size ⟨key, gone, k, s, aF, fs, cF, aL, ws, cL, x⟩ := (h25.block _ hB).trans HX2.out
  have hx6 := hx5.gone gone
  have hy5 : EffBox w5 (w.heap.size + 1) Le.zero := (h25.block _ HY2.out.lt).trans HY2.out
  have hz4 : w2.heap.size ≤ w4.heap.size := h24.size
  have hyl := HY2.out.lt
  have hok5 := hok4.2.later hb5
  have hy6 : EffBox (w5.setCell ⟨w4.heap.size, 1, none⟩ (.bool gone)) (w.heap.size + 1) Le.zero := (Below.heap_setCell _ _ _ _ (by simp only; omega)).trans hy5
  have hbw6 : Below w.heap.size w (w5.setCell ⟨w4.heap.size, 1, none⟩ (.bool gone)) := (HB.out.trans (h25.mono HB.out.size)).setCell (p := ⟨w4.heap.size, 1, none⟩) (by simp only; omega) _
  have hfin : CpdOut ⟨key, gone, k, s, aF, fs, cF, aL, ws, cL, x⟩ w (.returned (Le.v ⟨e4.key, gone, e4.it⟩)) (stEff (w5.setCell ⟨w4.heap.size, 1, none⟩ (.bool gone)) (w.heap.size + 1) ⟨e4.key, gone, e4.it⟩) := by
    refine ⟨⟨e4.key, gone, e4.it⟩, rfl, ?_, ⟨hok4.1, ?_⟩, stEff_below hbw6 (by omega) _, fun g hg => hf4 g (by have := HB3.out.size; omega)⟩
    · have h1 := congrArg Db.E.key hm4
      have h2 := congrArg Db.E.it hm4
      simp only [Le.e] at h1 h2 ⊢
      rw [h1, h2]
      rfl
    · have hz3 := HB3.out.size
      refine (hok5.grown (o := some w4.heap.size) (hok4.2.far (Nat.le_refl _)) (w' := w5.setCell ⟨w4.heap.size, 1, none⟩ (.bool gone)) (fun b _ hne => Below.heap_setCell _ _ _ _ (fun e => hne (by rw [e]))) (by simp [World.setCell])).grown (o := some (w.heap.size + 1)) (hf4 _ (by omega)) (fun b _ hne => stEff_block (fun e => hne (by rw [e])) _) (by simp [stEff, stEI, World.setCell])
  have HFIN := Lib.hid hfin
  have HW5 := Lib.hid hw5
  have HX6 := Lib.hid hx6
  have HY6 := Lib.hid hy6
  have HG := Lib.hid (And.intro hxg.at.1.2.1 (And.intro hx5.at.1.2.1 hx5.at.2.2.1))
  obtain ⟨q0, q1, q2, q3, q4, q5, q6⟩ := hc4
  clear hef hm4 hb4 hf4 hok4 hw5 hb5 hx5 h24 h25 hxg hx6 hy5 hok5 hy6 hbw6 hfin hz4 hyl hsm
  obtain ⟨key4, gone4, k4, s4, aF4, fs4, cF4, aL4, ws4, cL4, xx4⟩ := e4
  simp only at q0 q1 q2 q3 q4 q5 q6 HG HW5 HFIN HX6 ⊢
  go_upto_region 2 with (fail)
  rw [HW5.out]
  obtain ⟨g1, cz, fz⟩ := HG.out
  clear q0 q1 q2 q3 q4 q5 q6
  go_upto_region 3 with (fail)
  obtain ⟨⟨x0, x1, x2, x3, x4, x5, x6⟩, f0, f1, f2, f3, f4, f5, f6⟩ := HX6.out.at
  obtain ⟨⟨y0, y1, y2, y3, y4, y5, y6⟩, z0, z1, z2, z3, z4, z5, z6⟩ := HY6.out.at
  simp only [Le.zero, Li.zero] at x0 x1 x2 x3 x4 x5 x6 y0 y1 y2 y3 y4 y5 y6
  clear g1 cz fz
  go_wp2
  exact bodyPost_ret (results_cell rfl rfl (loadEff (HY6.out.stored ⟨key4, gone, k4, s4, aF4, fs4, cF4, aL4, ws4, cL4, xx4⟩))) rfl HFIN.out
end Go.Proofs.Ytihleddhjmejoaa
