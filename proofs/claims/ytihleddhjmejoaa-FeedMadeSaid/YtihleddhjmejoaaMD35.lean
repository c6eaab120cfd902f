/- The contracts of slices.EqualFunc at pairs and of the program's Same (11.1). The contract of the program's All (11.1). -/
import Derived.Test.YtihleddhjmejoaaMD13
import Derived.Test.YtihleddhjmejoaaMD14
import Derived.LoopTactic
import Derived.Deep.Cut
import Derived.Test.YtihleddhjmejoaaMD34
namespace Go.Proofs.Ytihleddhjmejoaa
open Go.RowKit Go.Shelf
attribute [local go_sem] Oper.semAt_some
set_option linter.unusedVariables false
set_option linter.unusedSimpArgs false

theorem pairBox (w : World) (p : Lp) : PAt (w.alloc (.cells #[.string ⟨p.key.toArray⟩, .int .i64 p.it.k, .string ⟨p.it.s.toArray⟩, .slice p.it.aF p.it.fs.length p.it.cF, .slice p.it.aL p.it.ws.length p.it.cL, .int .i64 p.it.x] 65)) w.heap.size 0 p := by
  have hx1 := World.alloc_heap_new w (.cells #[.string ⟨p.key.toArray⟩, .int .i64 p.it.k, .string ⟨p.it.s.toArray⟩, .slice p.it.aF p.it.fs.length p.it.cF, .slice p.it.aL p.it.ws.length p.it.cL, .int .i64 p.it.x] 65)
  generalize w.alloc (.cells #[.string ⟨p.key.toArray⟩, .int .i64 p.it.k, .string ⟨p.it.s.toArray⟩, .slice p.it.aF p.it.fs.length p.it.cF, .slice p.it.aL p.it.ws.length p.it.cL, .int .i64 p.it.x] 65) = w1 at *
  unfold PAt
  simp [World.cell?, hx1]

set_option maxRecDepth 100000 in
set_option maxHeartbeats 4000000 in
theorem samePair_any (p q : Lp) (w : World) (hp : p.Ok w) (hq : q.Ok w) :
    Calls Try.prog 72 #[.agg #[.string ⟨p.key.toArray⟩, .int .i64 p.it.k, .string ⟨p.it.s.toArray⟩, .slice p.it.aF p.it.fs.length p.it.cF, .slice p.it.aL p.it.ws.length p.it.cL, .int .i64 p.it.x], .agg #[.string ⟨q.key.toArray⟩, .int .i64 q.it.k, .string ⟨q.it.s.toArray⟩, .slice q.it.aF q.it.fs.length q.it.cF, .slice q.it.aL q.it.ws.length q.it.cL, .int .i64 q.it.x]] w fun e W => e = .returned (.bool (decide (p.key = q.key) && It.sameB p.it.i q.it.i)) ∧ Below w.heap.size w W := by
  obtain ⟨w1, hw1⟩ : ∃ w1, w.alloc (.cells #[.string ⟨p.key.toArray⟩, .int .i64 p.it.k, .string ⟨p.it.s.toArray⟩, .slice p.it.aF p.it.fs.length p.it.cF, .slice p.it.aL p.it.ws.length p.it.cL, .int .i64 p.it.x] 65) = w1 := ⟨_, rfl⟩
  obtain ⟨w2, hw2⟩ : ∃ w2, w1.alloc (.cells #[.string ⟨q.key.toArray⟩, .int .i64 q.it.k, .string ⟨q.it.s.toArray⟩, .slice q.it.aF q.it.fs.length q.it.cF, .slice q.it.aL q.it.ws.length q.it.cL, .int .i64 q.it.x] 65) = w2 := ⟨_, rfl⟩
  have hs1 : w1.heap.size = w.heap.size + 1 := by rw [← hw1]; simp
  have hb1 : Below w.heap.size w w1 := by rw [← hw1]; exact (Below.refl _ w).alloc (Nat.le_refl _) _
  have hb2 : Below w1.heap.size w1 w2 := by rw [← hw2]; exact (Below.refl _ w1).alloc (Nat.le_refl _) _
  have hp1 : PAt w1 w.heap.size 0 p := by rw [← hw1]; exact pairBox w p
  have hp2 := hp1.later (by omega) hb2
  have hq2 : PAt w2 (w.heap.size + 1) 0 q := by rw [← hs1, ← hw2]; exact pairBox w1 q
  have hB := hb1.trans (hb2.mono hb1.size)
  have hC := same_any p.it.k q.it.k p.it.x q.it.x p.it.s q.it.s p.it.aF q.it.aF p.it.cF q.it.cF p.it.fs q.it.fs p.it.aL q.it.aL p.it.cL q.it.cL p.it.ws q.it.ws w2 (hp.2.later hB).2.1 (hq.2.later hB).2.1 (hp.2.later hB).2.2.1 (hq.2.later hB).2.2.1
  have HW : Hid ((w.alloc (.cells #[.string ⟨p.key.toArray⟩, .int .i64 p.it.k, .string ⟨p.it.s.toArray⟩, .slice p.it.aF p.it.fs.length p.it.cF, .slice p.it.aL p.it.ws.length p.it.cL, .int .i64 p.it.x] 65)).alloc (.cells #[.string ⟨q.key.toArray⟩, .int .i64 q.it.k, .string ⟨q.it.s.toArray⟩, .slice q.it.aF q.it.fs.length q.it.cF, .slice q.it.aL q.it.ws.length q.it.cL, .int .i64 q.it.x] 65) = w2) := Lib.hid (by rw [hw1, hw2])
  have HB := Lib.hid hB
  unfold itv at hC
  obtain ⟨key, ⟨k, s, aF, fs, cF, aL, ws, cL, x⟩⟩ := p
  obtain ⟨key2, ⟨k2, s2, aF2, fs2, cF2, aL2, ws2, cL2, x2⟩⟩ := q
  obtain ⟨p0, p1, p2, p3, p4, p5⟩ := hp2
  obtain ⟨q0, q1, q2, q3, q4, q5⟩ := hq2
  simp only [Nat.zero_add] at p0 p1 p2 p3 p4 p5 q0 q1 q2 q3 q4 q5 hC HW ⊢
  simp only [Li.i] at hC ⊢
  have HC := Lib.hid hC
  clear hw1 hw2 hs1 hb1 hb2 hp1 hB hC hp hq
  by_cases hk : key = key2
  · subst hk
    rw [decide_eq_true rfl, Bool.true_and]
    go_enter Try.func72, Try.ntmps72
    go_upto_region 1 with (fail)
    rw [HW.out]
    go_wp2_with fail
    refine HC.out.mono ?_
    rintro e w3 ⟨rfl, hb⟩
    have HB3 := Lib.hid (HB.out.trans (hb.mono HB.out.size))
    clear hb
    go_wp2_with fail
    go_ret
    exact ⟨rfl, HB3.out⟩
  · rw [decide_eq_false hk, Bool.false_and]
    have ek : (key == key2) = false := beq_eq_false_iff_ne.2 hk
    go_enter Try.func72, Try.ntmps72
    go_upto_region 1 with (fail)
    rw [HW.out]
    go_wp2_with fail
    go_ret
    exact ⟨rfl, HB.out⟩

set_option maxRecDepth 100000 in
set_option maxHeartbeats 8000000 in
theorem equalPairs_any (a : Option Addr) (c : Nat) (ps : List Lp) (b : Option Addr) (d : Nat) (qs : List Lp) (w : World) (hP : Prs w a c ps) (hQ : Prs w b d qs) (hn : ps.length ≤ 1000000) (hm : qs.length ≤ 1000000) :
    Calls Try.prog 71 #[.slice a ps.length c, .slice b qs.length d, .func (.func 72) #[] #[]] w fun e W => e = .returned (.bool (Db.sameS (ps.map Lp.p) (qs.map Lp.p))) ∧ Below w.heap.size w W := by
  have HP := Lib.hid hP
  have HQ := Lib.hid hQ
  have lI : (ps.length : Int) ≤ 1000000 := by omega
  have mI : (qs.length : Int) ≤ 1000000 := by omega
  clear hP hQ
  unfold Db.sameS
  rw [List.length_map, List.length_map]
  have HG := Lib.hid (show ∀ i, Db.sameAt (ps.map Lp.p) (qs.map Lp.p) i = (decide (((ps.map Lp.p).getD i Db.P.zero).key = ((qs.map Lp.p).getD i Db.P.zero).key) && It.sameB ((ps.map Lp.p).getD i Db.P.zero).it ((qs.map Lp.p).getD i Db.P.zero).it) from fun i => rfl)
  generalize Db.sameAt (ps.map Lp.p) (qs.map Lp.p) = fB at *
  by_cases hlm : ps.length = qs.length
  rotate_left
  · have hne : ((ps.length : Int) == (qs.length : Int)) = false := by rw [beq_eq_false_iff_ne]; omega
    have hnm : ¬ (ps.length : Int) = (qs.length : Int) := by omega
    rw [decide_eq_false hlm, Bool.false_and]
    clear HP HQ HG
    generalize ps.length = x at *
    generalize qs.length = y at *
    go_enter Try.func71, Try.ntmps71
    go_wp2
    go_ret
    exact ⟨rfl, Below.refl _ _⟩
  rw [decide_eq_true hlm, ← hlm, Bool.true_and]
  have HLM := Lib.hid hlm
  clear hlm hm mI
  go_enter Try.func71, Try.ntmps71
  go_wp2_with fail
  go_loopw [6, 7, 8, 9, 17] (fun r _ _ _ i wr => ∃ n : Nat, n ≤ ps.length ∧ r = .bool false ∧ i = .int .i64 (n : Int) ∧ Hid (∀ j, j < n → fB j = true) ∧ Hid (Below w.heap.size w wr)) (fun _ _ _ _ i _ => ps.length - (intOf i).toNat)
  case atStart => exact ⟨0, Nat.zero_le _, rfl, rfl, Lib.hid (fun j h => by omega), Lib.hid (Below.refl _ _)⟩
  case round =>
    obtain ⟨n, hn', rfl, rfl, HJ, HB⟩ := hrel
    have k0 : (0 : Int) ≤ (n : Int) := by omega
    have wq1 : IntKind.i64.wrap ((n : Int) + 1) = (n : Int) + 1 := IntWalk.i64_in _ (by omega)
    by_cases hlt : n < ps.length
    · have k1 : (n : Int) < (ps.length : Int) := by omega
      have hlt' : n < qs.length := by have := HLM.out; omega
      obtain ⟨ba, oa, rfl, hba, hca⟩ := HP.out.get (by omega)
      obtain ⟨bb, ob, rfl, hbb, hcb⟩ := HQ.out.get (by omega)
      have hx := (hca n hlt).later hba HB.out
      have hy := (hcb n hlt').later hbb HB.out
      have hokx := HP.out.at hlt
      have hoky := HQ.out.at hlt'
      have hx2 : (ps.getD n Lp.zero).Ok wr := ⟨hokx.1, hokx.2.later HB.out⟩
      have hy2 : (qs.getD n Lp.zero).Ok wr := ⟨hoky.1, hoky.2.later HB.out⟩
      have HX := HG.out n
      rw [prs_key ps n hlt, prs_key qs n hlt'] at HX
      obtain ⟨p, hp⟩ : ∃ p, ps.getD n Lp.zero = p := ⟨_, rfl⟩
      obtain ⟨q, hq⟩ : ∃ q, qs.getD n Lp.zero = q := ⟨_, rfl⟩
      rw [hp] at hx hx2 HX
      rw [hq] at hy hy2 HX
      have HC := Lib.hid (fun W (h : Below wr.heap.size wr W) => samePair_any p q W ⟨hx2.1, hx2.2.later h⟩ ⟨hy2.1, hy2.2.later h⟩)
      have hE : fB n = (decide (p.key = q.key) && It.sameB p.it.i q.it.i) := HX
      obtain ⟨E, hEE⟩ : ∃ E, (decide (p.key = q.key) && It.sameB p.it.i q.it.i) = E := ⟨_, rfl⟩
      rw [hEE] at HC hE
      have HE := Lib.hid hE
      have hbb2 : bb < wr.heap.size := Nat.lt_of_lt_of_le hbb HB.out.size
      have HY := Lib.hid hy
      obtain ⟨p0, p1, p2, p3, p4, p5⟩ := hx
      clear hca hcb hokx hoky hx2 hy2 HX hp hq hE hEE hy
      go_upto_region 6 with (fail)
      obtain ⟨w2, hw2⟩ : ∃ w2, wr.alloc (.cells #[.string ⟨p.key.toArray⟩, .int .i64 p.it.k, .string ⟨p.it.s.toArray⟩, .slice p.it.aF p.it.fs.length p.it.cF, .slice p.it.aL p.it.ws.length p.it.cL, .int .i64 p.it.x] 65) = w2 := ⟨_, rfl⟩
      have hb2 : Below wr.heap.size wr w2 := by rw [← hw2]; exact (Below.refl _ wr).alloc (Nat.le_refl _) _
      have hx2 : PAt w2 wr.heap.size 0 p := by rw [← hw2]; exact pairBox wr p
      have hz2 : wr.heap.size < w2.heap.size := by rw [← hw2]; simp
      rw [hw2]
      obtain ⟨q0, q1, q2, q3, q4, q5⟩ := HY.out.later hbb2 hb2
      have HB2 := Lib.hid hb2
      have HX2 := Lib.hid hx2
      clear hw2 hb2 hx2 p0 p1 p2 p3 p4 p5
      go_upto_region 7 with (fail)
      obtain ⟨w3, hw3⟩ : ∃ w3, w2.alloc (.cells #[.string ⟨q.key.toArray⟩, .int .i64 q.it.k, .string ⟨q.it.s.toArray⟩, .slice q.it.aF q.it.fs.length q.it.cF, .slice q.it.aL q.it.ws.length q.it.cL, .int .i64 q.it.x] 65) = w3 := ⟨_, rfl⟩
      have hb3 : Below w2.heap.size w2 w3 := by rw [← hw3]; exact (Below.refl _ w2).alloc (Nat.le_refl _) _
      have hy3 : PAt w3 w2.heap.size 0 q := by rw [← hw3]; exact pairBox w2 q
      rw [hw3]
      clear q0 q1 q2 q3 q4 q5
      obtain ⟨p0, p1, p2, p3, p4, p5⟩ := HX2.out.later hz2 hb3
      obtain ⟨q0, q1, q2, q3, q4, q5⟩ := hy3
      simp only [Nat.zero_add] at p0 p1 p2 p3 p4 p5 q0 q1 q2 q3 q4 q5
      have HB3 := Lib.hid (HB2.out.trans (hb3.mono HB2.out.size))
      clear hw3 hb3
      go_wp2_with fail
      refine (HC.out w3 HB3.out).mono ?_
      rintro e w4 ⟨rfl, hb4⟩
      have HB4 := Lib.hid (HB.out.trans ((HB3.out.trans (hb4.mono HB3.out.size)).mono HB.out.size))
      clear hb4 p0 p1 p2 p3 p4 p5 q0 q1 q2 q3 q4 q5
      cases E with
      | true =>
        go_wp2_with fail
        go_roundw
        case rel => exact ⟨n + 1, by omega, rfl, by go_num, Lib.hid (all_upto HJ.out HE.out), HB4⟩
        case measure => simp [intOf]; omega
      | false =>
        go_wp2_with fail
        go_ret
        exact ⟨by rw [all_false hlt HE.out]; rfl, HB4.out⟩
    · obtain rfl : n = ps.length := by omega
      have hnl : ¬ (ps.length : Int) < (ps.length : Int) := by omega
      have HT : Hid ((List.range ps.length).all fB = true) := Lib.hid (List.all_eq_true.2 fun j hj => HJ.out j (by simpa using hj))
      go_wp2
      go_ret
      exact ⟨by rw [HT.out]; rfl, HB.out⟩

set_option maxHeartbeats 1000000 in
theorem spsame_any (a : Option Addr) (c : Nat) (ps : List Lp) (b : Option Addr) (d : Nat) (qs : List Lp) (w : World) (hP : Prs w a c ps) (hQ : Prs w b d qs) (hn : ps.length ≤ 1000000) (hm : qs.length ≤ 1000000) :
    Calls Try.prog 58 #[.slice a ps.length c, .slice b qs.length d] w fun e W => e = .returned (.bool (Db.sameS (ps.map Lp.p) (qs.map Lp.p))) ∧ Below w.heap.size w W := by
  have HX := Lib.hid (equalPairs_any a c ps b d qs w hP hQ hn hm)
  clear hP hQ hn hm
  go_enter Try.func58, Try.ntmps58
  go_wp2_with fail
  refine HX.out.mono ?_
  rintro e w1 ⟨rfl, hb⟩
  have HB := Lib.hid hb
  clear hb
  go_wp2_with fail
  go_ret
  exact ⟨rfl, HB.out⟩
end Go.Proofs.Ytihleddhjmejoaa
namespace Go.Proofs.Ytihleddhjmejoaa
open Go.RowKit Go.Shelf
attribute [local go_sem] Oper.semAt_some
set_option linter.unusedVariables false
set_option linter.unusedSimpArgs false

theorem RowE.late {w W W' : World} {v : Value} {es : List Le} (h : RowE w v es W) (hb : Below W.heap.size W W') : RowE w v es W' :=
  ⟨ownsRow_later h.1 hb, h.2.1.trans (hb.mono h.2.1.size), h.2.2⟩

set_option maxRecDepth 100000 in
set_option maxHeartbeats 4000000 in
theorem spall_any (a : Option Addr) (cap : Nat) (ps : List Lp) (w : World) (hP : Prs w a cap ps) (hn : ps.length ≤ 100000) (hsm : ∀ p ∈ ps, p.p.Sm) :
    Calls Try.prog 40 #[.slice a ps.length cap] w (EfOut (Db.all (ps.map Lp.p)) w) := by
  obtain ⟨iE, hiE, hiE0, hiE1, hiE2⟩ := info_parts infoE
  have HW := Lib.hid (with_any w (.slice none 0 0) [] a cap ps w (RowQ.none (Below.refl _ _)) hP (fun _ b off _ e => by cases e) (fun m hm => (hP.2 m hm).2.farO fun g e => by cases e) hsm (by simp) (by omega))
  clear hP hsm
  go_enter Try.func40, Try.ntmps40
  go_wp2_with fail
  refine HW.out.mono ?_
  rintro e w1 ⟨v, out, rfl, hro, hop, hkp, -⟩
  obtain ⟨a1, c1, rfl, hp1, hn1⟩ := hro.prs
  have hol : out.length = ps.length := by have := congrArg List.length hop; simpa using this
  have HP := Lib.hid hp1
  have HB := Lib.hid hro.2.1
  have HO : Hid (out.map Lp.p = ps.map Lp.p) := Lib.hid (by rw [hop]; simp)
  have hnI : (out.length : Int) ≤ 100000 := by omega
  clear hro hop hkp hp1 hn1 HW
  go_wp2_with fail
  go_loopw [3, 5, 9] (fun u _ i wr => ∃ n : Nat, n ≤ out.length ∧ i = .int .i64 n ∧ Hid (RowE w1 u ((out.take n).map setE) wr)) (fun _ _ i _ => out.length - (intOf i).toNat)
  case atStart => exact ⟨0, Nat.zero_le _, rfl, Lib.hid (RowE.none (Below.refl _ _))⟩
  case round =>
    obtain ⟨n, hn', rfl, HR⟩ := hrel
    have hll : ((out.take n).map setE).length ≤ 100000 := by rw [List.length_map, List.length_take]; omega
    by_cases hlt : n < out.length
    · obtain ⟨b, off, rfl, hb, hc⟩ := HP.out.get (by omega)
      have hq0 := (hc n hlt).later hb HR.out.2.1
      have hok := HP.out.at hlt
      have HX := Lib.hid (show (out.take (n + 1)).map setE = (out.take n).map setE ++ [setE (out.getD n Lp.zero)] by rw [take_succ_getD (d := Lp.zero) hlt, List.map_append]; rfl)
      obtain ⟨⟨key, k, s, aF, fs, cF, aL, ws, cL, x⟩, hq⟩ : ∃ q, out.getD n Lp.zero = q := ⟨_, rfl⟩
      obtain ⟨es, hes⟩ : ∃ es, (out.take n).map setE = es := ⟨_, rfl⟩
      rw [hq] at hq0 HX hok
      rw [hes] at HX HR hll
      obtain ⟨q0, q1, q2, q3, q4, q5⟩ := hq0
      simp only at q0 q1 q2 q3 q4 q5
      have HOK := Lib.hid hok
      have k0 : (0 : Int) ≤ (n : Int) := by omega
      have k1 : (n : Int) < (out.length : Int) := by omega
      have hzr := HR.out.2.1.size
      clear hc hok hq hes
      go_upto_region 5 with (fail)
      obtain ⟨w2, hw2⟩ : ∃ w2, wr.alloc (.cells #[.string ⟨key.toArray⟩, .int .i64 k, .string ⟨s.toArray⟩, .slice aF fs.length cF, .slice aL ws.length cL, .int .i64 x] 65) = w2 := ⟨_, rfl⟩
      have hb2 : Below wr.heap.size wr w2 := by rw [← hw2]; exact (Below.refl _ wr).alloc (Nat.le_refl _) _
      obtain ⟨p0, p1, p2, p3, p4, p5⟩ : PAt w2 wr.heap.size 0 ⟨key, k, s, aF, fs, cF, aL, ws, cL, x⟩ := by rw [← hw2]; exact pairBox wr ⟨key, k, s, aF, fs, cF, aL, ws, cL, x⟩
      rw [hw2]
      have HR2 := Lib.hid (HR.out.late hb2)
      have hz2 := hb2.size
      simp only [Nat.zero_add] at p0 p1 p2 p3 p4 p5
      clear hw2 hb2 q0 q1 q2 q3 q4 q5
      go_wp2_with (at_builtin; refine wpList_append_own _ rfl (.tmp 13) (.tmp 19) 24 rfl w1.heap.size 61 iE _ 7 104 Try.underlying24 hiE hiE0 hiE1 hiE2 rfl (by decide) _ _ _ rfl (HR2.out.1.alloc _) ⟨w2.heap.size, 0, none⟩ 1 1 [.string ⟨key.toArray⟩, .bool false, .int .i64 k, .string ⟨s.toArray⟩, .slice aF fs.length cF, .slice aL ws.length cL, .int .i64 x] rfl rfl (row_news w2 _ rfl _ _) (Le.cs_one ⟨key, false, k, s, aF, fs, cF, aL, ws, cL, x⟩) (by unfold maxLen; omega) (by omega) (by simp; omega) ?_; intro v1 w3 hown hgrow hnn; have HR3 := Lib.hid (RowE.append (e := ⟨key, false, k, s, aF, fs, cF, aL, ws, cL, x⟩) HR2.out hown hgrow HOK.out); clear hown hgrow hnn)
      go_roundw
      case rel => exact ⟨n + 1, by omega, by go_num, Lib.hid (by rw [HX.out]; exact HR3.out)⟩
      case measure => simp [intOf]; omega
    · obtain rfl : n = out.length := by omega
      have k1 : ¬ (out.length : Int) < (out.length : Int) := by omega
      rw [List.take_length] at HR
      have hr := HR.out
      obtain ⟨a2, c2, hv, he, hn2⟩ := hr.efs
      have hfin : EfOut (Db.all (ps.map Lp.p)) w (.returned (.slice a2 (out.map setE).length c2)) wr := ⟨a2, c2, _, rfl, he, hn2, by
        rw [← HO.out]
        unfold Db.all
        rw [List.map_map, List.map_map]
        rfl, HB.out.trans (hr.2.1.mono HB.out.size)⟩
      rw [← hv] at hfin
      have HF := Lib.hid hfin
      clear hr hv he hfin
      go_wp2_with fail
      go_ret
      exact HF.out
end Go.Proofs.Ytihleddhjmejoaa
