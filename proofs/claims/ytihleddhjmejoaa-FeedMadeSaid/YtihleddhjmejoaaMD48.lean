/- The contracts of the program's Same and of the reference's SameFeed (15). The contract of the law's awake (15). Feeds to which the same effects are added again and again, plainly; rows of effects beside feeds' boxes (15.1). The contract of the reference's SameMsg at two answers that are one (19.1). -/
import Derived.Test.YtihleddhjmejoaaMD47
import Derived.Test.YtihleddhjmejoaaMD34
import Derived.Test.YtihleddhjmejoaaMD26
import Derived.Test.YtihleddhjmejoaaMD41
import Derived.Test.YtihleddhjmejoaaMD46
namespace Go.Proofs.Ytihleddhjmejoaa
open Go.RowKit Go.Shelf
attribute [local go_sem] Oper.semAt_some
set_option linter.unusedVariables false
set_option linter.unusedSimpArgs false

set_option maxRecDepth 100000 in
set_option maxHeartbeats 4000000 in
theorem feSame_any (f g : Fe) (w : World) (hf : f.Ok w) (hg : g.Ok w) (hn : f.es.length ≤ 1000000) (hm : g.es.length ≤ 1000000) :
    Calls Try.prog 23 #[f.v, g.v] w fun e W => e = .returned (.bool (Fd.same f.f g.f)) ∧ Below w.heap.size w W := by
  obtain ⟨w2, hw2⟩ : ∃ w2, (w.alloc (.cells #[.int .i64 f.rn, .int .i64 f.re, .int .i64 f.off, .slice f.a f.es.length f.c, .int .i64 f.pn, .int .i64 f.pe, .int .i64 f.unt] 26)).alloc (.cells #[.int .i64 g.rn, .int .i64 g.re, .int .i64 g.off, .slice g.a g.es.length g.c, .int .i64 g.pn, .int .i64 g.pe, .int .i64 g.unt] 26) = w2 := ⟨_, rfl⟩
  have hb2 : Below w.heap.size w w2 := by rw [← hw2]; exact ((Below.refl _ w).alloc (Nat.le_refl _) _).alloc (by simp) _
  have hx2 : FeBox w2 w.heap.size f := by
    rw [← hw2]
    exact (Below.heap_alloc _ _ _ (by simp)).trans (FeBox.new w f)
  have hy2 : FeBox w2 (w.heap.size + 1) g := by
    rw [← hw2]
    have := FeBox.new (w.alloc f.o) g
    rwa [World.size_alloc] at this
  have HC := Lib.hid (equalEffs_any f.a f.c f.es g.a g.c g.es w2 (hf.later hb2).1 (hg.later hb2).1 hn hm)
  have HW := Lib.hid hw2
  have HX := Lib.hid hx2
  have HY := Lib.hid hy2
  have HB := Lib.hid hb2
  obtain ⟨R, hR⟩ : ∃ R, Fd.same f.f g.f = R := ⟨_, rfl⟩
  obtain ⟨b1, hb1⟩ : ∃ b, (decide (f.rn = g.rn) && decide (f.re = g.re)) = b := ⟨_, rfl⟩
  obtain ⟨b3, hb3⟩ : ∃ b, (decide (f.pn = g.pn) && decide (f.pe = g.pe)) = b := ⟨_, rfl⟩
  have HR : Hid ((b1 && decide (f.off = g.off) && b3 && decide (f.unt = g.unt) && Db.sameES (f.es.map Le.e) (g.es.map Le.e)) = R) := Lib.hid (by rw [← hR, ← hb1, ← hb3]; rfl)
  have HE1 : Hid (∀ w, (binOp .eql 23 (.agg #[.int .i64 f.rn, .int .i64 f.re]) (.agg #[.int .i64 g.rn, .int .i64 g.re])).run Try.prog w = .ok (.bool b1) w) := Lib.hid fun w => by rw [rid_eql, hb1]
  have HE3 : Hid (∀ w, (binOp .eql 23 (.agg #[.int .i64 f.pn, .int .i64 f.pe]) (.agg #[.int .i64 g.pn, .int .i64 g.pe])).run Try.prog w = .ok (.bool b3) w) := Lib.hid fun w => by rw [rid_eql, hb3]
  rw [hR]
  clear hw2 hx2 hy2 hb2 hf hg hR hb1 hb3 hn hm
  obtain ⟨X, hX⟩ : ∃ X, Db.sameES (f.es.map Le.e) (g.es.map Le.e) = X := ⟨_, rfl⟩
  rw [hX] at HC HR
  clear hX
  obtain ⟨rn, re, off, a, es, c, pn, pe, unt⟩ := f
  obtain ⟨rn2, re2, off2, a2, es2, c2, pn2, pe2, unt2⟩ := g
  unfold Fe.v
  simp only at HC HR HE1 HE3 HW ⊢
  obtain ⟨B, hB⟩ : ∃ B, B = w.heap.size := ⟨_, rfl⟩
  rw [← hB] at HX HY
  go_enter Try.func23, Try.ntmps23
  go_upto_region 1 with (fail)
  rw [HW.out, ← hB]
  clear hB
  obtain ⟨⟨x0, x1, x2, x3, x4, x5, x6⟩, -⟩ := HX.out.at
  obtain ⟨⟨y0, y1, y2, y3, y4, y5, y6⟩, -⟩ := HY.out.at
  simp only at x0 x1 x2 x3 x4 x5 x6 y0 y1 y2 y3 y4 y5 y6
  have e1 := HE1.out
  have e3 := HE3.out
  have fin : ∀ b, R = false → b = false → b = R := fun b h1 h2 => by rw [h1, h2]
  have HF := Lib.hid fin
  clear fin
  cases b1 with
  | false =>
    have hr : R = false := by have := HR.out; simpa using this.symm
    subst hr
    go_wp2_with fail
    go_ret
    exact ⟨rfl, HB.out⟩
  | true =>
    by_cases ho : off = off2
    rotate_left
    · have hr : R = false := by have := HR.out; simpa [ho] using this.symm
      subst hr
      have ho2 : (off == off2) = false := by simpa using ho
      go_wp2_with fail
      go_ret
      exact ⟨rfl, HB.out⟩
    subst ho
    cases b3 with
    | false =>
      have hr : R = false := by have := HR.out; simpa using this.symm
      subst hr
      go_wp2_with fail
      go_ret
      exact ⟨rfl, HB.out⟩
    | true =>
      by_cases hu : unt = unt2
      rotate_left
      · have hr : R = false := by have := HR.out; simpa [hu] using this.symm
        subst hr
        have hu2 : (unt == unt2) = false := by simpa using hu
        go_wp2_with fail
        go_ret
        exact ⟨rfl, HB.out⟩
      subst hu
      have hr : X = R := by have := HR.out; simpa using this
      subst hr
      go_wp2_with fail
      refine HC.out.mono ?_
      rintro e w3 ⟨rfl, hb3⟩
      have HB3 := Lib.hid (HB.out.trans (hb3.mono HB.out.size))
      clear hb3
      go_wp2_with fail
      go_ret
      exact ⟨rfl, HB3.out⟩

set_option maxRecDepth 100000 in
set_option maxHeartbeats 4000000 in
theorem refSameFeed_any (f g : Fe) (w : World) (hf : f.Ok w) (hg : g.Ok w) (hn : f.es.length ≤ 1000000) (hm : g.es.length ≤ 1000000) :
    Calls Try.prog 16 #[f.v, g.v] w fun e W => e = .returned (.bool (Fd.same f.f g.f)) ∧ Below w.heap.size w W := by
  obtain ⟨w2, hw2⟩ : ∃ w2, (w.alloc (.cells #[.int .i64 f.rn, .int .i64 f.re, .int .i64 f.off, .slice f.a f.es.length f.c, .int .i64 f.pn, .int .i64 f.pe, .int .i64 f.unt] 26)).alloc (.cells #[.int .i64 g.rn, .int .i64 g.re, .int .i64 g.off, .slice g.a g.es.length g.c, .int .i64 g.pn, .int .i64 g.pe, .int .i64 g.unt] 26) = w2 := ⟨_, rfl⟩
  have hb2 : Below w.heap.size w w2 := by rw [← hw2]; exact ((Below.refl _ w).alloc (Nat.le_refl _) _).alloc (by simp) _
  have hx2 : FeBox w2 w.heap.size f := by
    rw [← hw2]
    exact (Below.heap_alloc _ _ _ (by simp)).trans (FeBox.new w f)
  have hy2 : FeBox w2 (w.heap.size + 1) g := by
    rw [← hw2]
    have := FeBox.new (w.alloc f.o) g
    rwa [World.size_alloc] at this
  have HC := Lib.hid (sameEffects_any f.a f.c f.es g.a g.c g.es w2 (hf.later hb2).1 (hg.later hb2).1 hn hm)
  have HW := Lib.hid hw2
  have HX := Lib.hid hx2
  have HY := Lib.hid hy2
  have HB := Lib.hid hb2
  obtain ⟨R, hR⟩ : ∃ R, Fd.same f.f g.f = R := ⟨_, rfl⟩
  obtain ⟨b1, hb1⟩ : ∃ b, (decide (f.rn = g.rn) && decide (f.re = g.re)) = b := ⟨_, rfl⟩
  obtain ⟨b3, hb3⟩ : ∃ b, (decide (f.pn = g.pn) && decide (f.pe = g.pe)) = b := ⟨_, rfl⟩
  have HR : Hid ((b1 && decide (f.off = g.off) && b3 && decide (f.unt = g.unt) && Db.sameES (f.es.map Le.e) (g.es.map Le.e)) = R) := Lib.hid (by rw [← hR, ← hb1, ← hb3]; rfl)
  have HE1 : Hid (∀ w, (binOp .eql 23 (.agg #[.int .i64 f.rn, .int .i64 f.re]) (.agg #[.int .i64 g.rn, .int .i64 g.re])).run Try.prog w = .ok (.bool b1) w) := Lib.hid fun w => by rw [rid_eql, hb1]
  have HE3 : Hid (∀ w, (binOp .eql 23 (.agg #[.int .i64 f.pn, .int .i64 f.pe]) (.agg #[.int .i64 g.pn, .int .i64 g.pe])).run Try.prog w = .ok (.bool b3) w) := Lib.hid fun w => by rw [rid_eql, hb3]
  rw [hR]
  clear hw2 hx2 hy2 hb2 hf hg hR hb1 hb3 hn hm
  obtain ⟨X, hX⟩ : ∃ X, Db.sameES (f.es.map Le.e) (g.es.map Le.e) = X := ⟨_, rfl⟩
  rw [hX] at HC HR
  clear hX
  obtain ⟨rn, re, off, a, es, c, pn, pe, unt⟩ := f
  obtain ⟨rn2, re2, off2, a2, es2, c2, pn2, pe2, unt2⟩ := g
  unfold Fe.v
  simp only at HC HR HE1 HE3 HW ⊢
  obtain ⟨B, hB⟩ : ∃ B, B = w.heap.size := ⟨_, rfl⟩
  rw [← hB] at HX HY
  go_enter Try.func16, Try.ntmps16
  go_upto_region 1 with (fail)
  rw [HW.out, ← hB]
  clear hB
  obtain ⟨⟨x0, x1, x2, x3, x4, x5, x6⟩, -⟩ := HX.out.at
  obtain ⟨⟨y0, y1, y2, y3, y4, y5, y6⟩, -⟩ := HY.out.at
  simp only at x0 x1 x2 x3 x4 x5 x6 y0 y1 y2 y3 y4 y5 y6
  have e1 := HE1.out
  have e3 := HE3.out
  have fin : ∀ b, R = false → b = false → b = R := fun b h1 h2 => by rw [h1, h2]
  have HF := Lib.hid fin
  clear fin
  cases b1 with
  | false =>
    have hr : R = false := by have := HR.out; simpa using this.symm
    subst hr
    go_wp2_with fail
    go_ret
    exact ⟨rfl, HB.out⟩
  | true =>
    by_cases ho : off = off2
    rotate_left
    · have hr : R = false := by have := HR.out; simpa [ho] using this.symm
      subst hr
      have ho2 : (off == off2) = false := by simpa using ho
      go_wp2_with fail
      go_ret
      exact ⟨rfl, HB.out⟩
    subst ho
    cases b3 with
    | false =>
      have hr : R = false := by have := HR.out; simpa using this.symm
      subst hr
      go_wp2_with fail
      go_ret
      exact ⟨rfl, HB.out⟩
    | true =>
      by_cases hu : unt = unt2
      rotate_left
      · have hr : R = false := by have := HR.out; simpa [hu] using this.symm
        subst hr
        have hu2 : (unt == unt2) = false := by simpa using hu
        go_wp2_with fail
        go_ret
        exact ⟨rfl, HB.out⟩
      subst hu
      have hr : X = R := by have := HR.out; simpa using this
      subst hr
      go_wp2_with fail
      refine HC.out.mono ?_
      rintro e w3 ⟨rfl, hb3⟩
      have HB3 := Lib.hid (HB.out.trans (hb3.mono HB.out.size))
      clear hb3
      go_wp2_with fail
      go_ret
      exact ⟨rfl, HB3.out⟩
end Go.Proofs.Ytihleddhjmejoaa
namespace Go.Proofs.Ytihleddhjmejoaa
open Go.RowKit Go.Shelf
attribute [local go_sem] Oper.semAt_some
set_option linter.unusedVariables false
set_option linter.unusedSimpArgs false

/-- the effect that takes "a" away. -/
def effG : Le := ⟨[97], true, Li.zero⟩
theorem effG_sm : effG.e.Sm := ⟨by decide, by decide, by decide, by decide, by simp [effG, Le.e, Li.i, Li.zero], by simp [effG, Le.e, Li.i, Li.zero]⟩

set_option maxRecDepth 100000 in
set_option maxHeartbeats 4000000 in
theorem fe_awake_any (w : World) : Calls Try.prog 13 #[] w fun e W => e = .returned (.bool true) ∧ Below w.heap.size w W := by
  have HA := Lib.hid (answer_any Fe.zero none 0 [] 0 0 0 w (Fe.zero_ok w) (prs_nil w) (by decide) (by decide) (by simp [Fe.zero]) (by simp [Fe.zero]) (by simp) (by simp))
  have HD := Lib.hid (fun W => add_any Fe.zero (some ⟨W.heap.size, 0, none⟩) 1 [effG] (effW W effG) (Fe.zero_ok _) (efs_one (effW_at W effG) (effW_size W effG) ⟨by decide, Li.zero_ok _⟩) (fun h => (by cases h)) (by decide) (by decide) (by simp [Fe.zero]) (fun e h => by rw [List.mem_singleton.1 h]; exact effG_sm) (by simp [Fe.zero]) (by simp))
  have hA : Fd.answer Fe.zero.f (Db.all (([] : List Lp).map Lp.p)) 0 0 0 = ⟨5, 0, 0, 0, 0, 0, []⟩ := rfl
  have hD : Fd.add Fe.zero.f ([effG].map Le.e) = ⟨0, 0, 1, [effG.e], 0, 0, 0⟩ := rfl
  rw [hA] at HA
  rw [hD] at HD
  clear hA hD
  unfold Fe.v Fe.zero at HA HD
  simp only [List.length_nil, List.length_singleton] at HA HD
  go_enter Try.func13, Try.ntmps13
  go_wp2_with fail
  refine HA.out.mono ?_
  rintro e w1 ⟨a, xs, c, rfl, he, hn, hm, hb⟩
  obtain rfl : xs = [] := by simpa using hm
  have HB := Lib.hid hb
  clear he hn hm hb
  unfold Ms.v Ms.ans Ms.cells
  simp only [List.length_nil]
  obtain ⟨w2, hw2⟩ : ∃ w2, w1.alloc (.cells #[.int .i64 5, .int .i64 0, .int .i64 0, .int .i64 0, .slice none 0 0, .slice none 0 0, .int .i64 0, .int .i64 0, .int .i64 0, .int .i64 0, .int .i64 0, .int .i64 0, .int .i64 0, .int .i64 0, .slice a 0 c] 31) = w2 := ⟨_, rfl⟩
  have hb2 : Below w1.heap.size w1 w2 := by rw [← hw2]; exact (Below.refl _ w1).alloc (Nat.le_refl _) _
  have hx2 : MsBox w2 w1.heap.size (Ms.ans 5 0 0 0 0 0 a [] c) := by rw [← hw2]; exact World.alloc_heap_new w1 _
  have HW2 := Lib.hid hw2
  have HX2 := Lib.hid hx2
  have HB2 := Lib.hid (HB.out.trans (hb2.mono HB.out.size))
  clear hw2 hb2 hx2
  go_upto_region 2 with (fail)
  rw [HW2.out]
  have HD2 := Lib.hid (HD.out w2)
  have HBW := Lib.hid (effW_below w2 effG)
  unfold effW effG Li.zero at HD2 HBW
  simp only [List.length_nil] at HD2 HBW
  go_wp2_with fail
  refine HD2.out.mono ?_
  rintro e w3 ⟨g, rfl, hg, hf, hb⟩
  obtain ⟨rn, re, off, ga, es, gc, pn, pe, unt⟩ := g
  have h1 : off = 1 := congrArg Fd.F.off hf
  have h2 : es.length = 1 := by have := congrArg (fun x => x.back.length) hf; simpa [Fe.f] using this
  subst h1
  have H23 := Lib.hid (HBW.out.trans (hb.mono HBW.out.size))
  have HX3 := Lib.hid (HX2.out.next H23.out)
  clear hg hf hb
  unfold Fe.v
  simp only
  rw [h2]
  clear h2
  obtain ⟨w4, hw4⟩ : ∃ w4, w3.alloc (.cells #[.int .i64 rn, .int .i64 re, .int .i64 1, .slice ga 1 gc, .int .i64 pn, .int .i64 pe, .int .i64 unt] 26) = w4 := ⟨_, rfl⟩
  have hb4 : Below w3.heap.size w3 w4 := by rw [← hw4]; exact (Below.refl _ w3).alloc (Nat.le_refl _) _
  have hx4 := World.alloc_heap_new w3 (.cells #[.int .i64 rn, .int .i64 re, .int .i64 1, .slice ga 1 gc, .int .i64 pn, .int .i64 pe, .int .i64 unt] 26)
  rw [hw4] at hx4
  have d2 : w4.cell? ⟨w3.heap.size, 2, none⟩ = some (.int .i64 1) := by rw [cell_of_row _ _ _ _ _ (0, 0) hx4]; rfl
  have d3 : w4.cell? ⟨w3.heap.size, 3, none⟩ = some (.slice ga 1 gc) := by rw [cell_of_row _ _ _ _ _ (0, 0) hx4]; rfl
  have HW4 := Lib.hid hw4
  have HXX := Lib.hid (HX3.out.next hb4)
  have HF := Lib.hid ((HB2.out.trans (H23.out.mono HB2.out.size)).trans (hb4.mono (HB2.out.trans (H23.out.mono HB2.out.size)).size))
  have HDD := Lib.hid (And.intro d2 d3)
  clear hw4 hb4 hx4 d2 d3
  go_upto_region 3 with (fail)
  rw [HW4.out]
  obtain ⟨d2, d3⟩ := HDD.out
  obtain ⟨m0, -, -, -, -, -, m14⟩ := HXX.out.at
  simp only [Ms.ans, List.length_nil] at m0 m14
  go_wp2_with fail
  go_ret
  exact ⟨rfl, HF.out⟩
end Go.Proofs.Ytihleddhjmejoaa
namespace Go.Proofs.Ytihleddhjmejoaa
open Go.RowKit Go.Shelf
set_option linter.unusedVariables false
namespace Fd
/-- added so many times. -/
def rep (l : List Db.E) : Nat → F
  | 0 => F.zero
  | n + 1 => add (rep l n) l
theorem rep_back (l : List Db.E) : ∀ n, (rep l n).back.length ≤ 64
  | 0 => by simp [rep, F.zero]
  | n + 1 => by unfold rep add; exact last_len _
theorem rep_mem (l : List Db.E) : ∀ n, ∀ x ∈ (rep l n).back, x ∈ l
  | 0 => fun x h => by simp [rep, F.zero] at h
  | n + 1 => fun x h => by
    unfold rep add last at h
    rcases List.mem_append.1 (List.mem_of_mem_drop h) with h | h
    · exact rep_mem l n x h
    · exact h
theorem rep_off (l : List Db.E) : ∀ n, (rep l n).off = ((List.replicate n l).flatten.length : Int)
  | 0 => by simp [rep, F.zero]
  | n + 1 => by
    unfold rep add
    simp only [rep_off l n, List.replicate_succ', List.flatten_append, List.length_append, List.flatten_cons, List.flatten_nil, List.append_nil]
    omega
theorem rep_all (l : List Db.E) : ∀ n, (rep l n).back = last (List.replicate n l).flatten
  | 0 => by simp [rep, F.zero, last]
  | n + 1 => by
    unfold rep add
    simp only [rep_all l n, last_last, List.replicate_succ', List.flatten_append, List.flatten_cons, List.flatten_nil, List.append_nil]
theorem add_add (f : F) (a b : List Db.E) : add (add f a) b = add f (a ++ b) := by
  unfold add
  simp only [last_last, List.length_append, List.append_assoc]
  congr 1
  omega
theorem same_self (l : List Db.E) : Db.sameES l l = true := by
  simp only [Db.sameES, decide_true, Bool.true_and, List.all_eq_true]
  intro i hi
  unfold Db.sameEAt
  rw [It.same_self]
  simp
theorem same_refl (f : F) : same f f = true := by unfold same; rw [same_self]; simp
end Fd

theorem RowE.keepNe {w A C : World} {v : Value} {es : List Le} {B : Nat} {f : Fe} (h : RowE w v es A) (hB : FeBox A B f) (hw : w.heap.size ≤ B) (hk : Keeps (fun k => k ≠ B) A C) : RowE w v es C := by
  refine ⟨owns_kept h.1 hk fun g hg e => ?_, h.2.1.trans (hk.below h.2.1.size fun k hk => by omega), h.2.2⟩
  subst e
  obtain ⟨-, h2⟩ := h.1
  rcases h2 with ⟨h2, -⟩ | ⟨g', cap, cur, h2, -, h3, -⟩
  · rw [h2] at hg; cases hg
  · rw [h2] at hg
    cases hg
    unfold FeBox at hB
    rw [h3] at hB
    simp at hB
theorem Fe.Ok.grow {f : Fe} {A C : World} {n : Nat} {ov : Option Nat} (h : f.Ok A) (hn : f.New n) (ho : ∀ g, ov = some g → g < n) (hk : Keeps (fun k => some k ≠ ov) A C) : f.Ok C := by
  refine ⟨⟨h.1.1.keep hk.size fun b off e hlt => hk.block b hlt fun e2 => ?_, fun p hp => ⟨(h.1.2 p hp).1, ?_⟩⟩, h.2⟩
  · have := hn.1 b off e
    have := ho b e2.symm
    omega
  · refine (h.1.2 p hp).2.grown (o := ov) ?_ (fun b hb hne => hk.block b hb hne) hk.size
    cases hov : ov with
    | none => exact ⟨fun _ g k _ e => (by cases e), fun _ g k _ e => (by cases e)⟩
    | some g => exact hn.2 p hp g (ho g hov)
theorem FeBox.owned {w A : World} {v : Value} {es : List Le} {B : Nat} {f : Fe} (h : RowE w v es A) (hB : FeBox A B f) : some B ≠ v.ownBlock := by
  intro e
  obtain ⟨-, h2⟩ := h.1
  rcases h2 with ⟨h2, -⟩ | ⟨g', cap, cur, h2, -, h3, -⟩
  · rw [h2] at e; cases e
  · rw [h2] at e
    cases e
    unfold FeBox at hB
    rw [h3] at hB
    simp at hB
end Go.Proofs.Ytihleddhjmejoaa
namespace Go.Proofs.Ytihleddhjmejoaa
open Go.RowKit Go.Shelf
attribute [local go_sem] Oper.semAt_some
set_option linter.unusedVariables false
set_option linter.unusedSimpArgs false

set_option maxHeartbeats 1000000 in
theorem nilClaims (w : World) : Calls Try.prog 37 #[.slice none 0 0, .slice none 0 0] w fun e W => e = .returned (.bool true) ∧ Below w.heap.size w W := by
  go_enter Try.func37, Try.ntmps37
  go_wp2
  go_loopw [5] (fun i wr => i = .int .i64 0 ∧ wr = w) (fun _ _ => 0)
  case atStart => exact ⟨rfl, rfl⟩
  case round =>
    obtain ⟨rfl, rfl⟩ := hrel
    go_wp2
    go_ret
    exact ⟨rfl, Below.refl _ _⟩

set_option maxHeartbeats 1000000 in
theorem nilInts (w : World) : Calls Try.prog 38 #[.slice none 0 0, .slice none 0 0] w fun e W => e = .returned (.bool true) ∧ Below w.heap.size w W := by
  go_enter Try.func38, Try.ntmps38
  go_wp2
  go_loopw [5] (fun i wr => i = .int .i64 0 ∧ wr = w) (fun _ _ => 0)
  case atStart => exact ⟨rfl, rfl⟩
  case round =>
    obtain ⟨rfl, rfl⟩ := hrel
    go_wp2
    go_ret
    exact ⟨rfl, Below.refl _ _⟩

set_option maxRecDepth 100000 in
set_option maxHeartbeats 4000000 in
theorem sameMsg_any (k rn re pn pe off : Int) (a : Option Addr) (es : List Le) (c : Nat) (b : Option Addr) (ls : List Le) (d : Nat) (w : World) (hE : Efs w a c es) (hL : Efs w b d ls) (hn : es.length ≤ 1000000) (hm : ls.length ≤ 1000000) (he : es.map Le.e = ls.map Le.e) :
    Calls Try.prog 19 #[(Ms.ans k rn re pn pe off a es c).v, (Ms.ans k rn re pn pe off b ls d).v] w fun e W => e = .returned (.bool true) ∧ Below w.heap.size w W := by
  obtain ⟨w2, hw2⟩ : ∃ w2, (w.alloc (.cells #[.int .i64 k, .int .i64 0, .int .i64 0, .int .i64 0, .slice none 0 0, .slice none 0 0, .int .i64 0, .int .i64 0, .int .i64 0, .int .i64 rn, .int .i64 re, .int .i64 pn, .int .i64 pe, .int .i64 off, .slice a es.length c] 31)).alloc (.cells #[.int .i64 k, .int .i64 0, .int .i64 0, .int .i64 0, .slice none 0 0, .slice none 0 0, .int .i64 0, .int .i64 0, .int .i64 0, .int .i64 rn, .int .i64 re, .int .i64 pn, .int .i64 pe, .int .i64 off, .slice b ls.length d] 31) = w2 := ⟨_, rfl⟩
  have hb2 : Below w.heap.size w w2 := by rw [← hw2]; exact ((Below.refl _ w).alloc (Nat.le_refl _) _).alloc (by simp) _
  have hx2 : MsBox w2 w.heap.size (Ms.ans k rn re pn pe off a es c) := by
    rw [← hw2]
    exact (Below.heap_alloc _ _ _ (by simp)).trans (MsBox.new w (Ms.ans k rn re pn pe off a es c))
  have hy2 : MsBox w2 (w.heap.size + 1) (Ms.ans k rn re pn pe off b ls d) := by
    rw [← hw2]
    have := MsBox.new (w.alloc (.cells #[.int .i64 k, .int .i64 0, .int .i64 0, .int .i64 0, .slice none 0 0, .slice none 0 0, .int .i64 0, .int .i64 0, .int .i64 0, .int .i64 rn, .int .i64 re, .int .i64 pn, .int .i64 pe, .int .i64 off, .slice a es.length c] 31)) (Ms.ans k rn re pn pe off b ls d)
    rwa [World.size_alloc] at this
  have HE := Lib.hid (fun W (h : Below w2.heap.size w2 W) => sameEffects_any a c es b d ls W ((hE.later hb2).later h) ((hL.later hb2).later h) hn hm)
  rw [he, Fd.same_self] at HE
  have HW := Lib.hid hw2
  have HX := Lib.hid hx2
  have HY := Lib.hid hy2
  have HB := Lib.hid hb2
  have HC := Lib.hid (fun W => nilClaims W)
  have HI := Lib.hid (fun W => nilInts W)
  have HE1 : Hid (∀ w, (binOp .eql 23 (.agg #[.int .i64 rn, .int .i64 re]) (.agg #[.int .i64 rn, .int .i64 re])).run Try.prog w = .ok (.bool true) w) := Lib.hid fun w => by rw [rid_eql]; simp
  have HE2 : Hid (∀ w, (binOp .eql 23 (.agg #[.int .i64 pn, .int .i64 pe]) (.agg #[.int .i64 pn, .int .i64 pe])).run Try.prog w = .ok (.bool true) w) := Lib.hid fun w => by rw [rid_eql]; simp
  clear hw2 hb2 hx2 hy2 hE hL he
  unfold Ms.v Ms.ans Ms.cells
  simp only
  obtain ⟨B, hB⟩ : ∃ B, B = w.heap.size := ⟨_, rfl⟩
  rw [← hB] at HX HY
  go_enter Try.func19, Try.ntmps19
  go_upto_region 1 with (fail)
  rw [HW.out, ← hB]
  clear hB
  obtain ⟨x0, x9, x10, x11, x12, x13, x14⟩ := HX.out.at
  obtain ⟨x1, x2, x3, x4, x5, x6, x7, x8⟩ := HX.out.rest
  obtain ⟨y0, y9, y10, y11, y12, y13, y14⟩ := HY.out.at
  obtain ⟨y1, y2, y3, y4, y5, y6, y7, y8⟩ := HY.out.rest
  simp only [Ms.ans] at x0 x1 x2 x3 x4 x5 x6 x7 x8 x9 x10 x11 x12 x13 x14 y0 y1 y2 y3 y4 y5 y6 y7 y8 y9 y10 y11 y12 y13 y14
  have e1 := HE1.out
  have e2 := HE2.out
  go_wp2_with fail
  refine (HC.out _).mono ?_
  rintro e w3 ⟨rfl, hb3⟩
  have H3 := Lib.hid hb3
  clear x0 x1 x2 x3 x4 x5 x6 x7 x8 x9 x10 x11 x12 x13 x14 y0 y1 y2 y3 y4 y5 y6 y7 y8 y9 y10 y11 y12 y13 y14 hb3
  obtain ⟨-, -, -, -, -, -, x14⟩ := (HX.out.next H3.out).at
  obtain ⟨-, -, -, -, x5, -⟩ := (HX.out.next H3.out).rest
  obtain ⟨-, -, -, -, -, -, y14⟩ := (HY.out.next H3.out).at
  obtain ⟨-, -, -, -, y5, -⟩ := (HY.out.next H3.out).rest
  simp only [Ms.ans] at x5 x14 y5 y14
  go_wp2_with fail
  refine (HI.out _).mono ?_
  rintro e w4 ⟨rfl, hb4⟩
  have H4 := Lib.hid (H3.out.trans (hb4.mono H3.out.size))
  clear x5 x14 y5 y14 hb4
  obtain ⟨-, -, -, -, -, -, x14⟩ := (HX.out.next H4.out).at
  obtain ⟨-, -, -, -, -, -, y14⟩ := (HY.out.next H4.out).at
  simp only [Ms.ans] at x14 y14
  go_wp2_with fail
  refine (HE.out _ H4.out).mono ?_
  rintro e w5 ⟨rfl, hb5⟩
  have H5 := Lib.hid (HB.out.trans ((H4.out.trans (hb5.mono H4.out.size)).mono HB.out.size))
  clear x14 y14 hb5
  go_wp2_with fail
  go_ret
  exact ⟨rfl, H5.out⟩
end Go.Proofs.Ytihleddhjmejoaa
