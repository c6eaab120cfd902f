/- The contract of the reference's Answer (15.2). -/
import Derived.Test.YtihleddhjmejoaaMD41
import Derived.Test.YtihleddhjmejoaaMD44
import Derived.Test.YtihleddhjmejoaaMD34
namespace Go.Proofs.Ytihleddhjmejoaa
open Go.RowKit Go.Shelf
attribute [local go_sem] Oper.semAt_some
set_option linter.unusedVariables false
set_option linter.unusedSimpArgs false

theorem wp_append_own_none {P : Program} {w : World} {o : Oper} {a : Act} {K : Act → World → Prop} {Q : Exit → Act → World → Prop} (s x : Operand) (t : TypeId)
    (ho : o.op = .call { callee := .builtin .append, args := #[s, x], argTypes := #[t, t] })
    (base : Nat) (e : TypeId) (i : TypeInfo) (size : Nat) (ht : P.underlying t = some (.slice e)) (hi : P.info? e = some i)
    (v : Value) (n : Nat) (xs : List Value) (hs : a.eval s = v) (hown : w.ownsRow base e size v n xs) (hx : a.eval x = .slice none 0 0)
    (h : K (a.put o.dst v) w) : o.wp P a w K Q := by
  have hrun := run_append_owned_none (P := P) (w := w) base t o.type e i size ht hi v n xs hown
  unfold Oper.wp
  simp [execOp, ho, resolve, invoke, builtin, hs, hx, hrun, Result.andThen]
  exact h
theorem RowE.news {w W w1 : World} {v' : Value} {ls : List Le} {n : Nat} (hb : Below w.heap.size w W) (h1 : w1.ownsRow w.heap.size 61 7 v' n ((ls.map Le.cs).flatten)) (hn : n = ls.length) {v : Value} (hv : ∀ g, v.ownBlock = some g → w.heap.size ≤ g) (hg : W.grownBy w1 v.ownBlock) (hp : ∀ p ∈ ls, p.Ok w) : RowE w v' ls w1 := by
  subst hn
  exact ⟨h1, hb.trans ((Keeps.of_grown (S := fun k => some k ≠ v.ownBlock) hg fun r e h => h e.symm).below hb.size fun k hk e => by have := hv k e.symm; omega), hp⟩

set_option maxRecDepth 100000 in
set_option maxHeartbeats 8000000 in
theorem refAnswer_any (f : Fe) (a : Option Addr) (cap : Nat) (ps : List Lp) (qn qe off : Int) (w : World) (hok : f.Ok w) (hP : Prs w a cap ps) (h0 : 0 ≤ f.off) (h1 : f.off ≤ 1152921504606846976) (hn : f.es.length ≤ 400) (hp : ps.length ≤ 100000) :
    Calls Try.prog 21 #[f.v, .slice a ps.length cap, .agg #[.int .i64 qn, .int .i64 qe], .int .i64 off] w (MsOut (Fd.answer f.f (Db.all (ps.map Lp.p)) qn qe off) w) := by
  obtain ⟨w3, hw3⟩ : ∃ w3, ((w.alloc (.cells #[.int .i64 f.rn, .int .i64 f.re, .int .i64 f.off, .slice f.a f.es.length f.c, .int .i64 f.pn, .int .i64 f.pe, .int .i64 f.unt] 26)).alloc (.cells #[.int .i64 qn, .int .i64 qe] 23)).alloc (.cells #[.int .i64 0, .int .i64 0, .int .i64 0, .int .i64 0, .slice none 0 0, .slice none 0 0, .int .i64 0, .int .i64 0, .int .i64 0, .int .i64 0, .int .i64 0, .int .i64 0, .int .i64 0, .int .i64 0, .slice none 0 0] 31) = w3 := ⟨_, rfl⟩
  have hb3 : Below w.heap.size w w3 := by rw [← hw3]; exact (((Below.refl _ w).alloc (Nat.le_refl _) _).alloc (by simp) _).alloc (by first | (simp; done) | (simp; omega)) _
  have hs3 : w3.heap.size = w.heap.size + 3 := by rw [← hw3]; simp
  have hx3 : FeBox w3 w.heap.size f := by
    rw [← hw3]
    exact (Below.heap_alloc _ _ _ (by first | (simp; done) | (simp; omega))).trans ((Below.heap_alloc _ _ _ (by simp)).trans (FeBox.new w f))
  have hr3 : RdBox w3 (w.heap.size + 1) qn qe := by
    rw [← hw3]
    refine (Below.heap_alloc _ _ _ (by simp)).trans ?_
    have := World.alloc_heap_new (w.alloc f.o) (.cells #[.int .i64 qn, .int .i64 qe] 23)
    rwa [World.size_alloc] at this
  have hm3 : MsBox w3 (w.heap.size + 2) Ms.zero := by
    rw [← hw3]
    have := World.alloc_heap_new ((w.alloc f.o).alloc (.cells #[.int .i64 qn, .int .i64 qe] 23)) (.cells Ms.zero.cells 31)
    rwa [World.size_alloc, World.size_alloc] at this
  have HW := Lib.hid hw3
  have HX := Lib.hid hx3
  have HR := Lib.hid hr3
  have HM := Lib.hid hm3
  have HB := Lib.hid hb3
  have HOK := Lib.hid (hok.later hb3)
  have HP := Lib.hid (hP.later hb3)
  clear hw3 hx3 hr3 hm3 hb3 hok hP
  obtain ⟨rn, re, fo, fa, es, c, pn, pe, unt⟩ := f
  unfold Fe.v
  simp only at h0 h1 hn HW ⊢
  obtain ⟨B, hB⟩ : ∃ B, B = w.heap.size := ⟨_, rfl⟩
  rw [← hB] at HX HR HM hs3
  have HBB := Lib.hid hB
  obtain ⟨F, hF⟩ : ∃ F : Fd.F, Fe.f ⟨rn, re, fo, fa, es, c, pn, pe, unt⟩ = F := ⟨_, rfl⟩
  rw [hF]
  have HF := Lib.hid hF
  obtain ⟨SH, hSH⟩ : ∃ SH, Fd.shared F qn qe off = SH := ⟨_, rfl⟩
  have hSH2 : ((decide (qn = rn) && decide (qe = re)) || ((decide (qn = pn) && decide (qe = pe)) && decide (off ≤ unt))) = SH := by rw [← hSH, ← hF]; rfl
  have HSH := Lib.hid hSH
  have HSH2 := Lib.hid hSH2
  obtain ⟨b1, hb1⟩ : ∃ b1, (decide (qn = rn) && decide (qe = re)) = b1 := ⟨_, rfl⟩
  obtain ⟨b2, hb2⟩ : ∃ b2, (decide (qn = pn) && decide (qe = pe)) = b2 := ⟨_, rfl⟩
  have HE1 : Hid (∀ w, (binOp .eql 23 (.agg #[.int .i64 qn, .int .i64 qe]) (.agg #[.int .i64 rn, .int .i64 re])).run Try.prog w = .ok (.bool b1) w) := Lib.hid fun w => by rw [rid_eql, hb1]
  have HE2 : Hid (∀ w, (binOp .eql 23 (.agg #[.int .i64 qn, .int .i64 qe]) (.agg #[.int .i64 pn, .int .i64 pe])).run Try.prog w = .ok (.bool b2) w) := Lib.hid fun w => by rw [rid_eql, hb2]
  rw [hb1, hb2] at HSH2
  clear hF hSH hSH2 hb1 hb2
  go_enter Try.func21, Try.ntmps21
  obtain ⟨HE, hHE⟩ : ∃ HE, Fd.here F qn qe off = HE := ⟨_, rfl⟩
  have hHE2 : (SH && decide (fo - (es.length : Int) ≤ off) && decide (off ≤ fo)) = HE := by
    rw [← hHE, ← HSH.out, ← HF.out]
    unfold Fd.here Fd.first Fe.f
    simp only [List.length_map]
  have HHE := Lib.hid hHE
  obtain ⟨fi, hfi⟩ : ∃ fi : Int, fo - (es.length : Int) = fi := ⟨_, rfl⟩
  have wfi : IntKind.i64.wrap (fo - (es.length : Int)) = fi := by rw [IntWalk.i64_in _ (by omega), hfi]
  have HFI := Lib.hid hfi
  rw [hfi] at hHE2
  have HHE2 := Lib.hid hHE2
  clear hHE hHE2 hfi
  go_upto_region 1 with (fail)
  rw [HW.out, ← hB]
  clear hB
  obtain ⟨⟨c0, c1, c2, c3, c4, c5, c6⟩, -⟩ := HX.out.at
  obtain ⟨r0, r1⟩ := HR.out.at
  simp only at c0 c1 c2 c3 c4 c5 c6
  go_upto_region 2 with (fail)
  go_cut [43] (fun s W => s = .bool HE ∧ W = w3)
  case first =>
    have e1 := HE1.out
    have e2 := HE2.out
    cases b1 with
    | true =>
      have hS : SH = true := by have := HSH2.out; simpa using this.symm
      by_cases hlt : fi ≤ off
      rotate_left
      · have hlt2 : off < fi := by omega
        have hs : HE = false := by have := HHE2.out; simpa [hS, hlt] using this.symm
        subst hs
        go_wp2_with fail
        go_meet
        case rel => exact ⟨rfl, rfl⟩
      by_cases hgt : off ≤ fo
      rotate_left
      · have hgt2 : fo < off := by omega
        have hs : HE = false := by have := HHE2.out; simpa [hS, hgt] using this.symm
        subst hs
        go_wp2_with fail
        go_meet
        case rel => exact ⟨rfl, rfl⟩
      have hs : HE = true := by have := HHE2.out; simpa [hS, hlt, hgt] using this.symm
      subst hs
      go_wp2_with fail
      go_meet
      case rel => exact ⟨rfl, rfl⟩
    | false =>
      cases b2 with
      | false =>
        have hS : SH = false := by have := HSH2.out; simpa using this.symm
        have hs : HE = false := by have := HHE2.out; simpa [hS] using this.symm
        subst hs
        go_wp2_with fail
        go_meet
        case rel => exact ⟨rfl, rfl⟩
      | true =>
        by_cases hu : off ≤ unt
        rotate_left
        · have hS : SH = false := by have := HSH2.out; simpa [hu] using this.symm
          have hu2 : unt < off := by omega
          have hs : HE = false := by have := HHE2.out; simpa [hS] using this.symm
          subst hs
          go_wp2_with fail
          go_meet
          case rel => exact ⟨rfl, rfl⟩
        have hS : SH = true := by have := HSH2.out; simpa [hu] using this.symm
        by_cases hlt : fi ≤ off
        rotate_left
        · have hlt2 : off < fi := by omega
          have hs : HE = false := by have := HHE2.out; simpa [hS, hlt] using this.symm
          subst hs
          go_wp2_with fail
          go_meet
          case rel => exact ⟨rfl, rfl⟩
        by_cases hgt : off ≤ fo
        rotate_left
        · have hgt2 : fo < off := by omega
          have hs : HE = false := by have := HHE2.out; simpa [hS, hgt] using this.symm
          subst hs
          go_wp2_with fail
          go_meet
          case rel => exact ⟨rfl, rfl⟩
        have hs : HE = true := by have := HHE2.out; simpa [hS, hlt, hgt] using this.symm
        subst hs
        go_wp2_with fail
        go_meet
        case rel => exact ⟨rfl, rfl⟩
  case rest =>
    obtain ⟨rfl, rfl⟩ := hcut
    obtain ⟨wb, rfl⟩ : ∃ wb : World, wb = wc := ⟨_, rfl⟩
    have hMb := HM.out
    have hBc := HX.out.lt
    have hRl := HR.out.lt
    have hMl := hMb.lt
    have fin : ∀ (k rn re pn pe of : Int) (W : World) (a : Option Addr) (xs : List Le) (cx : Nat) (m : Fd.M), Below wb.heap.size wb W → Efs W a cx xs → (a = none → cx = 0) → m = ⟨k, rn, re, pn, pe, of, xs.map Le.e⟩ →
        MsOut m w (.returned (Ms.ans k rn re pn pe of a xs cx).v) (stMs W (B + 1 + 1) (Ms.ans k rn re pn pe of a xs cx)) ∧ MsBox (stMs W (B + 1 + 1) (Ms.ans k rn re pn pe of a xs cx)) (B + 1 + 1) (Ms.ans k rn re pn pe of a xs cx) := fun k rn re pn pe of W a xs cx m hb he ha hm => by
      subst hm
      have hM := HM.out.next hb
      have hbw := HB.out.trans (hb.mono HB.out.size)
      exact ⟨⟨a, xs, cx, rfl, he.keepT (stMs_T hM _), ha, rfl, stMs_below hbw (by rw [HBB.out]; omega) (Nat.le_refl _) _⟩, hM.store _⟩
    have FIN := Lib.hid fin
    clear fin hMb
    have HS0 : Below wb.heap.size wb wb.drew := (Below.refl _ wb).drew
    cases HE with
    | false =>
      have HA : Hid (Fd.answer F (Db.all (ps.map Lp.p)) qn qe off = ⟨6, rn, re, 0, 0, fo, Db.all (ps.map Lp.p)⟩) := Lib.hid (by unfold Fd.answer; rw [HHE.out, ← HF.out]; rfl)
      have HALL := Lib.hid (fun W' (h : Below wb.heap.size wb W') => all_any a cap ps W' (HP.out.later h) (by omega))
      go_wp2_with fail
      refine wp_region_L (S := fun W => Below wb.heap.size wb W) (f := 7) (by kernel_rfl) ?_
      refine wpAnyL_take (i := 0) (some 62) (v := .pointer (some ⟨B, 0, none⟩)) rfl rfl (by kernel_rfl) (by kernel_rfl) (by kernel_rfl) (by kernel_rfl) (fun _ _ _ h => h) (by rfl) (fun W hS => ?_) HS0 ?_
      · go_simp
      try simp only [Act.put, List.setIfInBounds_toArray, List.set_cons_zero, List.set_cons_succ]
      refine wpAnyL_take (i := 1) (some 63) (v := .agg #[.int .i64 rn, .int .i64 re]) rfl rfl (by kernel_rfl) (by kernel_rfl) (by kernel_rfl) (by kernel_rfl) (fun _ _ _ h => h) (by rfl) (fun W hS => ?_) HS0 ?_
      · have m0 := (hS.cell (p := ⟨B, 0, none⟩) hBc).trans c0
        have m1 := (hS.cell (p := ⟨B, 1, none⟩) hBc).trans c1
        go_simp
      try simp only [Act.put, List.setIfInBounds_toArray, List.set_cons_zero, List.set_cons_succ]
      refine wpAnyL_take (i := 2) (some 64) (v := .pointer (some ⟨B, 2, none⟩)) rfl rfl (by kernel_rfl) (by kernel_rfl) (by kernel_rfl) (by kernel_rfl) (fun _ _ _ h => h) (by rfl) (fun W hS => ?_) HS0 ?_
      · go_simp
      try simp only [Act.put, List.setIfInBounds_toArray, List.set_cons_zero, List.set_cons_succ]
      refine wpAnyL_take (i := 3) (some 65) (v := .int .i64 fo) rfl rfl (by kernel_rfl) (by kernel_rfl) (by kernel_rfl) (by kernel_rfl) (fun _ _ _ h => h) (by rfl) (fun W hS => ?_) HS0 ?_
      · have m2 := (hS.cell (p := ⟨B, 2, none⟩) hBc).trans c2
        go_simp
      try simp only [Act.put, List.setIfInBounds_toArray, List.set_cons_zero, List.set_cons_succ]
      refine wpAnyL_take (i := 4) (some 66) (v := .slice a ps.length cap) rfl rfl (by kernel_rfl) (by kernel_rfl) (by kernel_rfl) (by kernel_rfl) (fun _ _ _ h => h) (by rfl) (fun W hS => ?_) HS0 ?_
      · go_simp
      try simp only [Act.put, List.setIfInBounds_toArray, List.set_cons_zero, List.set_cons_succ]
      refine wpAnyL_one (j := 5) (by kernel_rfl) rfl (by rfl) (fun K hK => ?_)
      go_simp
      refine (HALL.out _ HS0).mono ?_
      rintro e w5 ⟨u5, rfl, hr5⟩
      obtain ⟨a5, cx5, rfl, he5, hn5⟩ := hr5.efs
      have HS1 := HS0.trans (hr5.2.1.mono HS0.size)
      have hm5 : (ps.map setE).map Le.e = Db.all (ps.map Lp.p) := by unfold Db.all; rw [List.map_map, List.map_map]; rfl
      obtain ⟨xs, hxs⟩ : ∃ xs, ps.map setE = xs := ⟨_, rfl⟩
      rw [hxs] at he5 hm5 ⊢
      have HFN := Lib.hid (FIN.out 6 rn re 0 0 fo w5 a5 xs cx5 _ HS1 he5 hn5 rfl)
      have HXM := Lib.hid hm5
      clear he5 hn5 hm5 hr5 hxs
      refine hK _ _ (fun _ => HS1) ?_
      clear hK K
      try simp only [Act.put, List.setIfInBounds_toArray, List.set_cons_zero, List.set_cons_succ]
      refine wpAnyL_take (i := 6) (some 68) (v := .agg #[.int .i64 6, .int .i64 0, .int .i64 0, .int .i64 0, .slice none 0 0, .slice none 0 0, .int .i64 0, .int .i64 0, .int .i64 0, .int .i64 rn, .int .i64 re, .int .i64 0, .int .i64 0, .int .i64 fo, .slice a5 xs.length cx5]) rfl rfl (by kernel_rfl) (by kernel_rfl) (by kernel_rfl) (by kernel_rfl) (fun _ _ _ h => h) (by rfl) (fun W hS => ?_) HS1 ?_
      · go_simp
      try simp only [Act.put, List.setIfInBounds_toArray, List.set_cons_zero, List.set_cons_succ]
      refine wpAnyL_one (j := 7) (by kernel_rfl) rfl (by rfl) (fun K hK => ?_)
      have hM5 : MsBox w5 (B + 1 + 1) Ms.zero := HM.out.next HS1
      obtain ⟨m0, m9, m10, m11, m12, m13, m14⟩ := hM5.at
      obtain ⟨m1, m2, m3, m4, m5, m6, m7, m8⟩ := hM5.rest
      have hfr := hM5.frees
      clear hM5
      simp only [Ms.zero, Ms.ans, List.length_nil] at m0 m1 m2 m3 m4 m5 m6 m7 m8 m9 m10 m11 m12 m13 m14
      go_simp
      refine hK _ _ (fun h => (h rfl).elim) ?_
      clear hK K m0 m1 m2 m3 m4 m5 m6 m7 m8 m9 m10 m11 m12 m13 m14 hfr
      try simp only [Act.put, List.setIfInBounds_toArray, List.set_cons_zero, List.set_cons_succ]
      refine wpAnyL_done (by kernel_rfl) ?_ _
      have HXF : Hid (MsOut (Fd.answer F (Db.all (ps.map Lp.p)) qn qe off) w (.returned (Ms.ans 6 rn re 0 0 fo a5 xs cx5).v) (stMs w5 (B + 1 + 1) (Ms.ans 6 rn re 0 0 fo a5 xs cx5))) := Lib.hid (by have h := HFN.out.1; rw [HXM.out, ← HA.out] at h; exact h)
      clear c0 c1 c2 c3 c4 c5 c6 r0 r1 HS0 HS1
      go_wp2_with fail
      exact bodyPost_ret (results_cell rfl rfl (loadMs HFN.out.2)) rfl HXF.out
    | true =>
      have ho : fi ≤ off ∧ off ≤ fo := by have := HHE2.out; simp at this; omega
      obtain ⟨p, hp'⟩ : ∃ p : Nat, off - fi = (p : Int) := ⟨(off - fi).toNat, by omega⟩
      have hfe : fo - (es.length : Int) = fi := HFI.out
      have hpl : p ≤ es.length := by omega
      have HA : Hid (Fd.answer F (Db.all (ps.map Lp.p)) qn qe off = ⟨5, rn, re, qn, qe, off, ((es.drop p).take 16).map Le.e⟩) := Lib.hid (by
        unfold Fd.answer Fd.part Fd.first
        rw [HHE.out, ← HF.out]
        unfold Fe.f
        simp only [List.length_map, List.map_take, List.map_drop, if_true]
        rw [show (off - (fo - (es.length : Int))).toNat = p by omega])
      have wp : IntKind.i64.wrap (off - fi) = (p : Int) := by rw [IntWalk.i64_in _ (by omega), hp']
      have hol := HOK.out.1.len
      simp only at hol
      have xm1 : (p : Int) ≤ (es.length : Int) := by omega
      have xm0 : (0 : Int) ≤ (p : Int) := by omega
      have xm2 : (es.length : Int) ≤ (c : Int) := by omega
      have hdl : (es.drop p).length = es.length - p := List.length_drop
      clear hp' hfe ho
      go_upto_region 3 with (fail)
      go_cut [10] (fun s W => W = wb ∧ ∃ la lc, s = .slice la (es.length - p) lc ∧ Hid (Efs wb la lc (es.drop p) ∧ (la = none → lc = 0)))
      case first =>
        cases fa with
        | none =>
          have hc0 : c = 0 := HOK.out.2 rfl
          have hx0 : es = [] := List.eq_nil_of_length_eq_zero (by omega)
          subst hx0
          subst hc0
          have hm0 : p = 0 := by simpa using hpl
          subst hm0
          have HF9 := Lib.hid (efs_nil wb)
          simp only [List.length_nil] at c3 wp
          clear xm1 xm0 xm2 hdl hol
          go_wp2_with fail
          go_meet
          case rel => exact ⟨rfl, none, 0, rfl, Lib.hid ⟨HF9.out, fun _ => rfl⟩⟩
        | some ad =>
          by_cases hcm : c = p
          · by_cases hx0 : es = []
            · subst hx0
              have hm0 : p = 0 := by simpa using hpl
              subst hm0
              subst hcm
              have HF9 := Lib.hid (HOK.out.1)
              simp only [List.length_nil] at c3 wp HF9
              clear xm1 xm0 xm2 hdl hol
              go_wp2_with fail
              go_meet
              case rel => exact ⟨rfl, some ad, 0, rfl, Lib.hid ⟨HF9.out, fun h => (by cases h)⟩⟩
            · have hpe : p = es.length := by omega
              have hce : c = es.length := by omega
              subst hpe
              subst hce
              have HE0 : Hid (∀ x, Efs wb (some x) 0 (es.drop es.length)) := Lib.hid fun x => by rw [List.drop_length]; exact ⟨⟨Nat.le_refl _, by decide, .inl rfl⟩, by simp⟩
              go_wp2_with fail
              go_meet
              case rel => exact ⟨rfl, _, 0, by simp; rfl, Lib.hid ⟨HE0.out _, fun h => (by cases h)⟩⟩
          · have hcm' : ¬ (c : Int) = (p : Int) := by omega
            have hef : Efs wb (some (ad.add (p * 7))) (c - p) (es.drop p) := by
              by_cases hx0 : es = []
              · subst hx0
                have h := HOK.out.1
                rw [List.drop_nil]
                exact ⟨⟨Nat.zero_le _, by have := h.1.2.1; simp only at this; omega, .inl rfl⟩, by simp⟩
              · obtain ⟨xb, xo, e, -⟩ := HOK.out.1.get (List.length_pos_iff.2 hx0)
                cases e
                rw [Addr.add_flat]
                exact HOK.out.1.drop p (by omega)
            have HF9 := Lib.hid hef
            clear hef hol
            go_wp2_with fail
            go_meet
            case rel => exact ⟨rfl, _, _, rfl, Lib.hid ⟨HF9.out, fun h => (by cases h)⟩⟩
      case rest =>
      obtain ⟨hww, la, lc, rfl, HLE⟩ := hcut
      subst hww
      obtain ⟨L, hL⟩ : ∃ L, es.drop p = L := ⟨_, rfl⟩
      obtain ⟨n, hn'⟩ : ∃ n, es.length - p = n := ⟨_, rfl⟩
      rw [hL] at HLE HA
      have hLn : L.length = n := by rw [← hL, hdl, hn']
      rw [hn']
      have hn4 : n ≤ 400 := by omega
      obtain ⟨q, hq⟩ : ∃ q, min n 16 = q := ⟨_, rfl⟩
      have xq : min (n : Int) 16 = (q : Int) := by omega
      have xq2 : min n 16 = q := hq
      have hql : q ≤ n := by omega
      have xq0 : (0 : Int) ≤ (q : Int) := by omega
      have xqc : (q : Int) ≤ (n : Int) := by omega
      have hll := HLE.out.1.len
      have xnc : (n : Int) ≤ (lc : Int) := by omega
      have xqc2 : (q : Int) ≤ (lc : Int) := by omega
      have htk : L.take 16 = L.take q := by
        by_cases h16 : n ≤ 16
        · rw [List.take_of_length_le (by omega), List.take_of_length_le (by omega)]
        · rw [show q = 16 by omega]
      rw [htk] at HA
      have htl : (L.take q).length = q := by rw [List.length_take]; omega
      have HTE := Lib.hid (HLE.out.1.take q)
      have HLN := Lib.hid HLE.out.2
      have HTL := Lib.hid htl
      have HQL := Lib.hid (And.intro hql hn4)
      obtain ⟨iE, hiE, hiE0, hiE1, hiE2⟩ := info_parts infoE
      clear hLn htl xq2 hql hn4 hll
      clear hL hn' hdl HLE hq htk xm1 xm0 xm2 hpl hol wp wfi
      go_wp2_with fail
      refine wp_region_L (S := fun W => Below wc.heap.size wc W) (f := 12) (by kernel_rfl) ?_
      refine wpAnyL_take (i := 0) (some 50) (v := .pointer (some ⟨B, 0, none⟩)) rfl rfl (by kernel_rfl) (by kernel_rfl) (by kernel_rfl) (by kernel_rfl) (fun _ _ _ h => h) (by rfl) (fun W hS => ?_) HS0 ?_
      · go_simp
      try simp only [Act.put, List.setIfInBounds_toArray, List.set_cons_zero, List.set_cons_succ]
      refine wpAnyL_take (i := 1) (some 51) (v := .agg #[.int .i64 rn, .int .i64 re]) rfl rfl (by kernel_rfl) (by kernel_rfl) (by kernel_rfl) (by kernel_rfl) (fun _ _ _ h => h) (by rfl) (fun W hS => ?_) HS0 ?_
      · have m0 := (hS.cell (p := ⟨B, 0, none⟩) hBc).trans c0
        have m1 := (hS.cell (p := ⟨B, 1, none⟩) hBc).trans c1
        go_simp
      try simp only [Act.put, List.setIfInBounds_toArray, List.set_cons_zero, List.set_cons_succ]
      refine wpAnyL_take (i := 2) (some 52) (v := .agg #[.int .i64 qn, .int .i64 qe]) rfl rfl (by kernel_rfl) (by kernel_rfl) (by kernel_rfl) (by kernel_rfl) (fun _ _ _ h => h) (by rfl) (fun W hS => ?_) HS0 ?_
      · have m0 := (hS.cell (p := ⟨B + 1, 0, none⟩) hRl).trans r0
        have m1 := (hS.cell (p := ⟨B + 1, 1, none⟩) hRl).trans r1
        go_simp
      try simp only [Act.put, List.setIfInBounds_toArray, List.set_cons_zero, List.set_cons_succ]
      refine wpAnyL_take (i := 3) (some 53) (v := .int .i64 off) rfl rfl (by kernel_rfl) (by kernel_rfl) (by kernel_rfl) (by kernel_rfl) (fun _ _ _ h => h) (by rfl) (fun W hS => ?_) HS0 ?_
      · go_simp
      try simp only [Act.put, List.setIfInBounds_toArray, List.set_cons_zero, List.set_cons_succ]
      refine wpAnyL_take (i := 5) (some 55) (v := .slice la n lc) rfl rfl (by kernel_rfl) (by kernel_rfl) (by kernel_rfl) (by kernel_rfl) (fun _ _ _ h => h) (by rfl) (fun W hS => ?_) HS0 ?_
      · go_simp
      try simp only [Act.put, List.setIfInBounds_toArray, List.set_cons_zero, List.set_cons_succ]
      refine wpAnyL_take (i := 6) (some 56) (v := .slice la n lc) rfl rfl (by kernel_rfl) (by kernel_rfl) (by kernel_rfl) (by kernel_rfl) (fun _ _ _ h => h) (by rfl) (fun W hS => ?_) HS0 ?_
      · go_simp
      try simp only [Act.put, List.setIfInBounds_toArray, List.set_cons_zero, List.set_cons_succ]
      refine wpAnyL_take (i := 7) (some 57) (v := .int .i64 (n : Int)) rfl rfl (by kernel_rfl) (by kernel_rfl) (by kernel_rfl) (by kernel_rfl) (fun _ _ _ h => h) (by rfl) (fun W hS => ?_) HS0 ?_
      · go_simp
      try simp only [Act.put, List.setIfInBounds_toArray, List.set_cons_zero, List.set_cons_succ]
      refine wpAnyL_take (i := 8) (some 58) (v := .int .i64 (q : Int)) rfl rfl (by kernel_rfl) (by kernel_rfl) (by kernel_rfl) (by kernel_rfl) (fun _ _ _ h => h) (by rfl) (fun W hS => ?_) HS0 ?_
      · go_simp
      try simp only [Act.put, List.setIfInBounds_toArray, List.set_cons_zero, List.set_cons_succ]
      cases la with
      | none =>
        have hlc : lc = 0 := HLN.out rfl
        have hn0 : n = 0 := by have := HTL.out; omega
        subst hlc
        subst hn0
        have hq0 : q = 0 := by have := HQL.out; omega
        subst hq0
        clear xq xq0 xqc xnc xqc2
        obtain ⟨xs, hx0⟩ : ∃ xs : List Le, xs = [] := ⟨_, rfl⟩
        have hxl : xs.length = 0 := by rw [hx0]; rfl
        obtain ⟨z, hz⟩ : ∃ z, z = wc.heap.size := ⟨_, rfl⟩
        have HZZ := Lib.hid hz
        clear hz
        refine wpAnyL_take (i := 9) (some 59) (v := .slice none 0 0) rfl rfl (by kernel_rfl) (by kernel_rfl) (by kernel_rfl) (by kernel_rfl) (fun _ _ _ h => h) (by rfl) (fun W hS => ?_) HS0 ?_
        · go_simp
        try simp only [Act.put, List.setIfInBounds_toArray, List.set_cons_zero, List.set_cons_succ]
        refine wpAnyL_one (j := 4) (by kernel_rfl) rfl (by rfl) (fun K hK => ?_)
        refine oper_wp_val (v := .slice (some ⟨z, 0, none⟩) xs.length 0) (w' := wc.drew.alloc (.cells #[] 61)) (by rw [hxl, HZZ.out]; go_simp) ?_
        have HSA : Below wc.heap.size wc (wc.drew.alloc (.cells #[] 61)) := HS0.alloc HS0.size _
        have HRE := Lib.hid (RowE.empty HS0)
        refine hK _ _ (fun _ => HSA) ?_
        clear hK K
        try simp only [Act.put, List.setIfInBounds_toArray, List.set_cons_zero, List.set_cons_succ]
        refine wpAnyL_one (j := 10) (by kernel_rfl) rfl (by rfl) (fun K hK => ?_)
        refine wp_append_own_none (.tmp 54) (.tmp 59) 24 rfl wc.heap.size 61 iE 7 Try.underlying24 hiE (.slice (some ⟨z, 0, none⟩) xs.length 0) 0 [] rfl (by rw [hxl, HZZ.out]; exact HRE.out.1) rfl ?_
        have HS1 := HSA
        obtain ⟨w5, hw5⟩ : ∃ w5, wc.drew.alloc (.cells #[] 61) = w5 := ⟨_, rfl⟩
        have HFN := Lib.hid (FIN.out 5 rn re qn qe off (wc.drew.alloc (.cells #[] 61)) (some ⟨z, 0, none⟩) xs 0 _ HS1 (by rw [hx0, HZZ.out]; obtain ⟨a9, c9, e9, h9, -⟩ := HRE.out.efs; cases e9; exact h9) (fun h => (by cases h)) rfl)
        have HXM : Hid (xs.map Le.e = (L.take 0).map Le.e) := Lib.hid (by rw [hx0]; rfl)
        rw [hw5] at HFN HS1 ⊢
        clear hw5 hx0 hxl
        refine hK _ _ (fun _ => HS1) ?_
        clear hK K
        try simp only [Act.put, List.setIfInBounds_toArray, List.set_cons_zero, List.set_cons_succ]
        refine wpAnyL_take (i := 11) (some 61) (v := .agg #[.int .i64 5, .int .i64 0, .int .i64 0, .int .i64 0, .slice none 0 0, .slice none 0 0, .int .i64 0, .int .i64 0, .int .i64 0, .int .i64 rn, .int .i64 re, .int .i64 qn, .int .i64 qe, .int .i64 off, .slice (some ⟨z, 0, none⟩) xs.length 0]) rfl rfl (by kernel_rfl) (by kernel_rfl) (by kernel_rfl) (by kernel_rfl) (fun _ _ _ h => h) (by rfl) (fun W hS => ?_) HS1 ?_
        · go_simp
        try simp only [Act.put, List.setIfInBounds_toArray, List.set_cons_zero, List.set_cons_succ]
        refine wpAnyL_one (j := 12) (by kernel_rfl) rfl (by rfl) (fun K hK => ?_)
        have hM5 : MsBox w5 (B + 1 + 1) Ms.zero := HM.out.next HS1
        obtain ⟨m0, m9, m10, m11, m12, m13, m14⟩ := hM5.at
        obtain ⟨m1, m2, m3, m4, m5, m6, m7, m8⟩ := hM5.rest
        have hfr := hM5.frees
        clear hM5
        simp only [Ms.zero, Ms.ans, List.length_nil] at m0 m1 m2 m3 m4 m5 m6 m7 m8 m9 m10 m11 m12 m13 m14
        go_simp
        refine hK _ _ (fun h => (h rfl).elim) ?_
        clear hK K m0 m1 m2 m3 m4 m5 m6 m7 m8 m9 m10 m11 m12 m13 m14 hfr
        try simp only [Act.put, List.setIfInBounds_toArray, List.set_cons_zero, List.set_cons_succ]
        refine wpAnyL_done (by kernel_rfl) ?_ _
        have HXF : Hid (MsOut (Fd.answer F (Db.all (ps.map Lp.p)) qn qe off) w (.returned (Ms.ans 5 rn re qn qe off (some ⟨z, 0, none⟩) xs 0).v) (stMs w5 (B + 1 + 1) (Ms.ans 5 rn re qn qe off (some ⟨z, 0, none⟩) xs 0))) := Lib.hid (by have h := HFN.out.1; rw [HXM.out, ← HA.out] at h; exact h)
        clear c0 c1 c2 c3 c4 c5 c6 r0 r1 HS0 HS1
        go_wp2_with fail
        exact bodyPost_ret (results_cell rfl rfl (loadMs HFN.out.2)) rfl HXF.out
      | some ad =>
        refine wpAnyL_take (i := 9) (some 59) (v := .slice (some ad) q lc) rfl rfl (by kernel_rfl) (by kernel_rfl) (by kernel_rfl) (by kernel_rfl) (fun _ _ _ h => h) (by rfl) (fun W hS => ?_) HS0 ?_
        · go_simp
        try simp only [Act.put, List.setIfInBounds_toArray, List.set_cons_zero, List.set_cons_succ]
        refine wpAnyL_one (j := 4) (by kernel_rfl) rfl (by rfl) (fun K hK => ?_)
        refine oper_wp_val (v := .slice (some ⟨wc.drew.heap.size, 0, none⟩) 0 0) (w' := wc.drew.alloc (.cells #[] 61)) (by go_simp) ?_
        have HSA : Below wc.heap.size wc (wc.drew.alloc (.cells #[] 61)) := HS0.alloc HS0.size _
        have HRE := Lib.hid (RowE.empty HS0)
        refine hK _ _ (fun _ => HSA) ?_
        clear hK K
        try simp only [Act.put, List.setIfInBounds_toArray, List.set_cons_zero, List.set_cons_succ]
        refine wpAnyL_one (j := 10) (by kernel_rfl) rfl (by rfl) (fun K hK => ?_)
        have HN := Lib.hid (efs_news (HTE.out.later HSA))
        have hzc := HSA.size
        refine wp_append_own _ (.tmp 54) (.tmp 59) 24 rfl wc.heap.size 61 iE _ 7 104 Try.underlying24 hiE hiE0 hiE1 hiE2 rfl (by decide) _ 0 [] rfl HRE.out.1 ad q lc ((L.take q).map Le.cs).flatten rfl (by rw [flatE_len, HTL.out]) HN.out (flatE_one _) (by have := HQL.out; unfold maxLen; omega) (by have := HQL.out; omega) (by omega) ?_
        intro v1 w5 hown hgrow _
        have htl := HTL.out
        have hr5 := RowE.many (es := []) (ls := L.take q) HRE.out (by rw [htl]; simpa using hown) hgrow (HTE.out).2
        rw [List.nil_append] at hr5
        obtain ⟨a5, cx5, rfl, he5, hn5⟩ := hr5.efs
        have HS1 : Below wc.heap.size wc w5 := hr5.2.1
        obtain ⟨xs, hxs⟩ : ∃ xs, L.take q = xs := ⟨_, rfl⟩
        rw [hxs] at he5 ⊢
        have HFN := Lib.hid (FIN.out 5 rn re qn qe off w5 a5 xs cx5 _ HS1 he5 hn5 rfl)
        have HXM : Hid (xs.map Le.e = (L.take q).map Le.e) := Lib.hid (by rw [hxs])
        clear hown hgrow hr5 he5 hn5 hxs htl
        refine hK _ _ (fun _ => HS1) ?_
        clear hK K
        try simp only [Act.put, List.setIfInBounds_toArray, List.set_cons_zero, List.set_cons_succ]
        refine wpAnyL_take (i := 11) (some 61) (v := .agg #[.int .i64 5, .int .i64 0, .int .i64 0, .int .i64 0, .slice none 0 0, .slice none 0 0, .int .i64 0, .int .i64 0, .int .i64 0, .int .i64 rn, .int .i64 re, .int .i64 qn, .int .i64 qe, .int .i64 off, .slice a5 xs.length cx5]) rfl rfl (by kernel_rfl) (by kernel_rfl) (by kernel_rfl) (by kernel_rfl) (fun _ _ _ h => h) (by rfl) (fun W hS => ?_) HS1 ?_
        · go_simp
        try simp only [Act.put, List.setIfInBounds_toArray, List.set_cons_zero, List.set_cons_succ]
        refine wpAnyL_one (j := 12) (by kernel_rfl) rfl (by rfl) (fun K hK => ?_)
        have hM5 : MsBox w5 (B + 1 + 1) Ms.zero := HM.out.next HS1
        obtain ⟨m0, m9, m10, m11, m12, m13, m14⟩ := hM5.at
        obtain ⟨m1, m2, m3, m4, m5, m6, m7, m8⟩ := hM5.rest
        have hfr := hM5.frees
        clear hM5
        simp only [Ms.zero, Ms.ans, List.length_nil] at m0 m1 m2 m3 m4 m5 m6 m7 m8 m9 m10 m11 m12 m13 m14
        go_simp
        refine hK _ _ (fun h => (h rfl).elim) ?_
        clear hK K m0 m1 m2 m3 m4 m5 m6 m7 m8 m9 m10 m11 m12 m13 m14 hfr
        try simp only [Act.put, List.setIfInBounds_toArray, List.set_cons_zero, List.set_cons_succ]
        refine wpAnyL_done (by kernel_rfl) ?_ _
        have HXF : Hid (MsOut (Fd.answer F (Db.all (ps.map Lp.p)) qn qe off) w (.returned (Ms.ans 5 rn re qn qe off a5 xs cx5).v) (stMs w5 (B + 1 + 1) (Ms.ans 5 rn re qn qe off a5 xs cx5))) := Lib.hid (by have h := HFN.out.1; rw [HXM.out, ← HA.out] at h; exact h)
        clear c0 c1 c2 c3 c4 c5 c6 r0 r1 HS0 HS1
        go_wp2_with fail
        exact bodyPost_ret (results_cell rfl rfl (loadMs HFN.out.2)) rfl HXF.out
end Go.Proofs.Ytihleddhjmejoaa
