/- The contracts of the program's same, of slices.EqualFunc at effects, of Same (15). -/
import Derived.Test.YtihleddhjmejoaaMD41
import Derived.Test.YtihleddhjmejoaaMD46
namespace Go.Proofs.Ytihleddhjmejoaa
open Go.RowKit Go.Shelf
attribute [local go_sem] Oper.semAt_some
set_option linter.unusedVariables false
set_option linter.unusedSimpArgs false

/-- two effects are one. -/
def sameLe (a b : Le) : Bool := decide (a.key = b.key) && decide (a.gone = b.gone) && It.sameB a.it.i b.it.i

set_option maxRecDepth 100000 in
set_option maxHeartbeats 4000000 in
theorem same2_any (p q : Le) (w : World) (hp : p.Ok w) (hq : q.Ok w) :
    Calls Try.prog 44 #[p.v, q.v] w fun e W => e = .returned (.bool (sameLe p q)) ∧ Below w.heap.size w W := by
  obtain ⟨w2, hw2⟩ : ∃ w2, (w.alloc (.cells #[.string ⟨p.key.toArray⟩, .bool p.gone, .int .i64 p.it.k, .string ⟨p.it.s.toArray⟩, .slice p.it.aF p.it.fs.length p.it.cF, .slice p.it.aL p.it.ws.length p.it.cL, .int .i64 p.it.x] 61)).alloc (.cells #[.string ⟨q.key.toArray⟩, .bool q.gone, .int .i64 q.it.k, .string ⟨q.it.s.toArray⟩, .slice q.it.aF q.it.fs.length q.it.cF, .slice q.it.aL q.it.ws.length q.it.cL, .int .i64 q.it.x] 61) = w2 := ⟨_, rfl⟩
  have hb2 : Below w.heap.size w w2 := by rw [← hw2]; exact ((Below.refl _ w).alloc (Nat.le_refl _) _).alloc (by simp) _
  have hx2 : EffBox w2 w.heap.size p := by
    rw [← hw2]
    exact (Below.heap_alloc _ _ _ (by simp)).trans (EffBox.new w p)
  have hy2 : EffBox w2 (w.heap.size + 1) q := by
    rw [← hw2]
    have := EffBox.new (w.alloc (.cells #[.string ⟨p.key.toArray⟩, .bool p.gone, .int .i64 p.it.k, .string ⟨p.it.s.toArray⟩, .slice p.it.aF p.it.fs.length p.it.cF, .slice p.it.aL p.it.ws.length p.it.cL, .int .i64 p.it.x] 61)) q
    rwa [World.size_alloc] at this
  have HW := Lib.hid hw2
  have HX := Lib.hid hx2
  have HY := Lib.hid hy2
  have HB := Lib.hid hb2
  have HP := Lib.hid (fun W (h : Below w2.heap.size w2 W) => alone_any p W ⟨hp.1, hp.2.later (hb2.trans (h.mono hb2.size))⟩)
  have HQ := Lib.hid (fun W (h : Below w2.heap.size w2 W) => alone_any q W ⟨hq.1, hq.2.later (hb2.trans (h.mono hb2.size))⟩)
  have HS := Lib.hid (fun a b W (h1 : Prs W (some ⟨a, 0, none⟩) 1 [⟨p.key, p.it⟩]) (h2 : Prs W (some ⟨b, 0, none⟩) 1 [⟨q.key, q.it⟩]) => spsame_any (some ⟨a, 0, none⟩) 1 [⟨p.key, p.it⟩] (some ⟨b, 0, none⟩) 1 [⟨q.key, q.it⟩] W h1 h2 (by simp) (by simp))
  have HR : Hid (p.gone = q.gone → sameLe p q = Db.sameS ([(⟨p.key, p.it⟩ : Lp)].map Lp.p) ([(⟨q.key, q.it⟩ : Lp)].map Lp.p)) := Lib.hid fun h => by
    unfold sameLe Db.sameS Db.sameAt
    simp [h, Lp.p]
  have HR2 : Hid (¬ p.gone = q.gone → sameLe p q = false) := Lib.hid fun h => by unfold sameLe; simp [h]
  clear hw2 hx2 hy2 hb2 hp hq
  obtain ⟨R, hR⟩ : ∃ R, sameLe p q = R := ⟨_, rfl⟩
  rw [hR] at HR HR2 ⊢
  clear hR
  obtain ⟨X, hX⟩ : ∃ X, Db.sameS ([(⟨p.key, p.it⟩ : Lp)].map Lp.p) ([(⟨q.key, q.it⟩ : Lp)].map Lp.p) = X := ⟨_, rfl⟩
  rw [hX] at HR HS
  clear hX
  obtain ⟨key, gone, k, s, aF, fs, cF, aL, ws, cL, x⟩ := p
  obtain ⟨key2, gone2, k2, s2, aF2, fs2, cF2, aL2, ws2, cL2, x2⟩ := q
  unfold Le.v at *
  simp only [List.length_singleton] at HP HQ HS HR HR2 HW ⊢
  obtain ⟨B, hB⟩ : ∃ B, B = w.heap.size := ⟨_, rfl⟩
  rw [← hB] at HX HY
  go_enter Try.func44, Try.ntmps44
  go_upto_region 1 with (fail)
  rw [HW.out, ← hB]
  clear hB
  obtain ⟨⟨c0, c1, c2, c3, c4, c5, c6⟩, -⟩ := HX.out.at
  obtain ⟨⟨d0, d1, d2, d3, d4, d5, d6⟩, -⟩ := HY.out.at
  simp only at c0 c1 c2 c3 c4 c5 c6 d0 d1 d2 d3 d4 d5 d6
  have hBl := HX.out.lt
  have hCl := HY.out.lt
  have HS0 : Below w2.heap.size w2 w2.drew := (Below.refl _ w2).drew
  by_cases hg : gone = gone2
  · subst hg
    have hr := HR.out rfl
    subst hr
    refine wp_region_L (S := fun W => Below w2.heap.size w2 W) (f := 13) (by kernel_rfl) ?_
    refine wpAnyL_take (i := 0) (some 5) (v := .pointer (some ⟨B, 1, none⟩)) rfl rfl (by kernel_rfl) (by kernel_rfl) (by kernel_rfl) (by kernel_rfl) (fun _ _ _ h => h) (by rfl) (fun W hS => ?_) HS0 ?_
    · go_simp
    try simp only [Act.put, List.setIfInBounds_toArray, List.set_cons_zero, List.set_cons_succ]
    refine wpAnyL_take (i := 1) (some 6) (v := .bool gone) rfl rfl (by kernel_rfl) (by kernel_rfl) (by kernel_rfl) (by kernel_rfl) (fun _ _ _ h => h) (by rfl) (fun W hS => ?_) HS0 ?_
    · have m1 := (hS.cell (p := ⟨B, 1, none⟩) hBl).trans c1
      go_simp
    try simp only [Act.put, List.setIfInBounds_toArray, List.set_cons_zero, List.set_cons_succ]
    refine wpAnyL_take (i := 2) (some 7) (v := .pointer (some ⟨B + 1, 1, none⟩)) rfl rfl (by kernel_rfl) (by kernel_rfl) (by kernel_rfl) (by kernel_rfl) (fun _ _ _ h => h) (by rfl) (fun W hS => ?_) HS0 ?_
    · go_simp
    try simp only [Act.put, List.setIfInBounds_toArray, List.set_cons_zero, List.set_cons_succ]
    refine wpAnyL_take (i := 3) (some 8) (v := .bool gone) rfl rfl (by kernel_rfl) (by kernel_rfl) (by kernel_rfl) (by kernel_rfl) (fun _ _ _ h => h) (by rfl) (fun W hS => ?_) HS0 ?_
    · have m1 := (hS.cell (p := ⟨B + 1, 1, none⟩) hCl).trans d1
      go_simp
    try simp only [Act.put, List.setIfInBounds_toArray, List.set_cons_zero, List.set_cons_succ]
    refine wpAnyL_take (i := 4) (some 9) (v := .bool true) rfl rfl (by kernel_rfl) (by kernel_rfl) (by kernel_rfl) (by kernel_rfl) (fun _ _ _ h => h) (by rfl) (fun W hS => ?_) HS0 ?_
    · go_simp
    try simp only [Act.put, List.setIfInBounds_toArray, List.set_cons_zero, List.set_cons_succ]
    refine wpAnyL_take (i := 5) (some 10) (v := .bool true) rfl rfl (by kernel_rfl) (by kernel_rfl) (by kernel_rfl) (by kernel_rfl) (fun _ _ _ h => h) (by rfl) (fun W hS => ?_) HS0 ?_
    · go_simp
    try simp only [Act.put, List.setIfInBounds_toArray, List.set_cons_zero, List.set_cons_succ]
    refine wpAnyL_take (i := 6) (some 11) (v := .agg #[.string ⟨key.toArray⟩, .bool gone, .int .i64 k, .string ⟨s.toArray⟩, .slice aF fs.length cF, .slice aL ws.length cL, .int .i64 x]) rfl rfl (by kernel_rfl) (by kernel_rfl) (by kernel_rfl) (by kernel_rfl) (fun _ _ _ h => h) (by rfl) (fun W hS => ?_) HS0 ?_
    · have m0 := (hS.cell (p := ⟨B, 0, none⟩) hBl).trans c0
      have m1 := (hS.cell (p := ⟨B, 1, none⟩) hBl).trans c1
      have m2 := (hS.cell (p := ⟨B, 2, none⟩) hBl).trans c2
      have m3 := (hS.cell (p := ⟨B, 3, none⟩) hBl).trans c3
      have m4 := (hS.cell (p := ⟨B, 4, none⟩) hBl).trans c4
      have m5 := (hS.cell (p := ⟨B, 5, none⟩) hBl).trans c5
      have m6 := (hS.cell (p := ⟨B, 6, none⟩) hBl).trans c6
      go_simp
    try simp only [Act.put, List.setIfInBounds_toArray, List.set_cons_zero, List.set_cons_succ]
    refine wpAnyL_take (i := 8) (some 13) (v := .agg #[.string ⟨key2.toArray⟩, .bool gone, .int .i64 k2, .string ⟨s2.toArray⟩, .slice aF2 fs2.length cF2, .slice aL2 ws2.length cL2, .int .i64 x2]) rfl rfl (by kernel_rfl) (by kernel_rfl) (by kernel_rfl) (by kernel_rfl) (fun _ _ _ h => h) (by rfl) (fun W hS => ?_) HS0 ?_
    · have m0 := (hS.cell (p := ⟨B + 1, 0, none⟩) hCl).trans d0
      have m1 := (hS.cell (p := ⟨B + 1, 1, none⟩) hCl).trans d1
      have m2 := (hS.cell (p := ⟨B + 1, 2, none⟩) hCl).trans d2
      have m3 := (hS.cell (p := ⟨B + 1, 3, none⟩) hCl).trans d3
      have m4 := (hS.cell (p := ⟨B + 1, 4, none⟩) hCl).trans d4
      have m5 := (hS.cell (p := ⟨B + 1, 5, none⟩) hCl).trans d5
      have m6 := (hS.cell (p := ⟨B + 1, 6, none⟩) hCl).trans d6
      go_simp
    try simp only [Act.put, List.setIfInBounds_toArray, List.set_cons_zero, List.set_cons_succ]
    refine wpAnyL_one (j := 7) (by kernel_rfl) rfl (by rfl) (fun K hK => ?_)
    go_simp
    refine (HP.out _ HS0).mono ?_
    rintro e w3 ⟨g1, rfl, hp3, hb3⟩
    have HS0' := HS0.trans (hb3.mono HS0.size)
    have HP3 := Lib.hid hp3
    have HB3 := Lib.hid hb3
    clear hp3 hb3
    refine hK _ _ (fun _ => HS0') ?_
    clear hK K
    try simp only [Act.put, List.setIfInBounds_toArray, List.set_cons_zero, List.set_cons_succ]
    refine wpAnyL_one (j := 9) (by kernel_rfl) rfl (by rfl) (fun K hK => ?_)
    go_simp
    refine (HQ.out _ HS0').mono ?_
    rintro e w4 ⟨g2, rfl, hp4, hb4⟩
    have HS0'' := HS0'.trans (hb4.mono HS0'.size)
    have HP4 := Lib.hid hp4
    have HB4 := Lib.hid hb4
    clear hp4 hb4
    refine hK _ _ (fun _ => HS0'') ?_
    clear hK K
    try simp only [Act.put, List.setIfInBounds_toArray, List.set_cons_zero, List.set_cons_succ]
    refine wpAnyL_one (j := 10) (by kernel_rfl) rfl (by rfl) (fun K hK => ?_)
    go_simp
    refine (HS.out g1 g2 _ (HP3.out.later HB4.out) HP4.out).mono ?_
    rintro e w5 ⟨rfl, hb5⟩
    have HS5 := HS0''.trans (hb5.mono HS0''.size)
    clear hb5
    refine hK _ _ (fun _ => HS5) ?_
    clear hK K
    try simp only [Act.put, List.setIfInBounds_toArray, List.set_cons_zero, List.set_cons_succ]
    refine wpAnyL_take (i := 11) (some 16) (v := .bool R) rfl rfl (by kernel_rfl) (by kernel_rfl) (by kernel_rfl) (by kernel_rfl) (fun _ _ _ h => h) (by rfl) (fun W hS => ?_) HS5 ?_
    · go_simp
    try simp only [Act.put, List.setIfInBounds_toArray, List.set_cons_zero, List.set_cons_succ]
    refine wpAnyL_take (i := 12) (some 4) (v := .bool R) rfl rfl (by kernel_rfl) (by kernel_rfl) (by kernel_rfl) (by kernel_rfl) (fun _ _ _ h => h) (by rfl) (fun W hS => ?_) HS5 ?_
    · go_simp
    try simp only [Act.put, List.setIfInBounds_toArray, List.set_cons_zero, List.set_cons_succ]
    refine wpAnyL_done (by kernel_rfl) ?_ _
    have HF := Lib.hid (HB.out.trans (HS5.mono HB.out.size))
    go_wp2_with fail
    go_ret
    exact ⟨rfl, HF.out⟩
  · have he : (gone == gone2) = false := by simpa using hg
    have hr := HR2.out hg
    subst hr
    refine wp_region_L (S := fun W => Below w2.heap.size w2 W) (f := 13) (by kernel_rfl) ?_
    refine wpAnyL_take (i := 0) (some 5) (v := .pointer (some ⟨B, 1, none⟩)) rfl rfl (by kernel_rfl) (by kernel_rfl) (by kernel_rfl) (by kernel_rfl) (fun _ _ _ h => h) (by rfl) (fun W hS => ?_) HS0 ?_
    · go_simp
    try simp only [Act.put, List.setIfInBounds_toArray, List.set_cons_zero, List.set_cons_succ]
    refine wpAnyL_take (i := 1) (some 6) (v := .bool gone) rfl rfl (by kernel_rfl) (by kernel_rfl) (by kernel_rfl) (by kernel_rfl) (fun _ _ _ h => h) (by rfl) (fun W hS => ?_) HS0 ?_
    · have m1 := (hS.cell (p := ⟨B, 1, none⟩) hBl).trans c1
      go_simp
    try simp only [Act.put, List.setIfInBounds_toArray, List.set_cons_zero, List.set_cons_succ]
    refine wpAnyL_take (i := 2) (some 7) (v := .pointer (some ⟨B + 1, 1, none⟩)) rfl rfl (by kernel_rfl) (by kernel_rfl) (by kernel_rfl) (by kernel_rfl) (fun _ _ _ h => h) (by rfl) (fun W hS => ?_) HS0 ?_
    · go_simp
    try simp only [Act.put, List.setIfInBounds_toArray, List.set_cons_zero, List.set_cons_succ]
    refine wpAnyL_take (i := 3) (some 8) (v := .bool gone2) rfl rfl (by kernel_rfl) (by kernel_rfl) (by kernel_rfl) (by kernel_rfl) (fun _ _ _ h => h) (by rfl) (fun W hS => ?_) HS0 ?_
    · have m1 := (hS.cell (p := ⟨B + 1, 1, none⟩) hCl).trans d1
      go_simp
    try simp only [Act.put, List.setIfInBounds_toArray, List.set_cons_zero, List.set_cons_succ]
    refine wpAnyL_take (i := 4) (some 9) (v := .bool false) rfl rfl (by kernel_rfl) (by kernel_rfl) (by kernel_rfl) (by kernel_rfl) (fun _ _ _ h => h) (by rfl) (fun W hS => ?_) HS0 ?_
    · go_simp
    try simp only [Act.put, List.setIfInBounds_toArray, List.set_cons_zero, List.set_cons_succ]
    refine wpAnyL_take (i := 5) (some 10) (v := .bool false) rfl rfl (by kernel_rfl) (by kernel_rfl) (by kernel_rfl) (by kernel_rfl) (fun _ _ _ h => h) (by rfl) (fun W hS => ?_) HS0 ?_
    · go_simp
    try simp only [Act.put, List.setIfInBounds_toArray, List.set_cons_zero, List.set_cons_succ]
    refine wpAnyL_pass (i := 6) (some 11) rfl rfl (by kernel_rfl) (by kernel_rfl) (by kernel_rfl) (by kernel_rfl) (fun _ _ _ h => h) (by rfl) HS0 ?_
    try simp only [Act.put, List.setIfInBounds_toArray, List.set_cons_zero, List.set_cons_succ]
    refine wpAnyL_pass (i := 7) (some 12) rfl rfl (by kernel_rfl) (by kernel_rfl) (by kernel_rfl) (by kernel_rfl) (fun _ _ _ h => h) (by rfl) HS0 ?_
    try simp only [Act.put, List.setIfInBounds_toArray, List.set_cons_zero, List.set_cons_succ]
    refine wpAnyL_pass (i := 8) (some 13) rfl rfl (by kernel_rfl) (by kernel_rfl) (by kernel_rfl) (by kernel_rfl) (fun _ _ _ h => h) (by rfl) HS0 ?_
    try simp only [Act.put, List.setIfInBounds_toArray, List.set_cons_zero, List.set_cons_succ]
    refine wpAnyL_pass (i := 9) (some 14) rfl rfl (by kernel_rfl) (by kernel_rfl) (by kernel_rfl) (by kernel_rfl) (fun _ _ _ h => h) (by rfl) HS0 ?_
    try simp only [Act.put, List.setIfInBounds_toArray, List.set_cons_zero, List.set_cons_succ]
    refine wpAnyL_pass (i := 10) (some 15) rfl rfl (by kernel_rfl) (by kernel_rfl) (by kernel_rfl) (by kernel_rfl) (fun _ _ _ h => h) (by rfl) HS0 ?_
    try simp only [Act.put, List.setIfInBounds_toArray, List.set_cons_zero, List.set_cons_succ]
    refine wpAnyL_take (i := 11) (some 16) (v := .bool false) rfl rfl (by kernel_rfl) (by kernel_rfl) (by kernel_rfl) (by kernel_rfl) (fun _ _ _ h => h) (by rfl) (fun W hS => ?_) HS0 ?_
    · go_simp
    try simp only [Act.put, List.setIfInBounds_toArray, List.set_cons_zero, List.set_cons_succ]
    refine wpAnyL_take (i := 12) (some 4) (v := .bool false) rfl rfl (by kernel_rfl) (by kernel_rfl) (by kernel_rfl) (by kernel_rfl) (fun _ _ _ h => h) (by rfl) (fun W hS => ?_) HS0 ?_
    · go_simp
    try simp only [Act.put, List.setIfInBounds_toArray, List.set_cons_zero, List.set_cons_succ]
    refine wpAnyL_done (by kernel_rfl) ?_ _
    have HF := Lib.hid (HB.out.trans (HS0.mono HB.out.size))
    go_wp2_with fail
    go_ret
    exact ⟨rfl, HF.out⟩
theorem efs_key (ps : List Le) (k : Nat) (hk : k < ps.length) : (ps.map Le.e).getD k Db.E.zero = (ps.getD k Le.zero).e := map_getD Le.e ps Le.zero Db.E.zero hk

set_option maxRecDepth 100000 in
set_option maxHeartbeats 8000000 in
theorem equalEffs_any (a : Option Addr) (c : Nat) (ps : List Le) (b : Option Addr) (d : Nat) (qs : List Le) (w : World) (hP : Efs w a c ps) (hQ : Efs w b d qs) (hn : ps.length ≤ 1000000) (hm : qs.length ≤ 1000000) :
    Calls Try.prog 43 #[.slice a ps.length c, .slice b qs.length d, .func (.func 44) #[] #[]] w fun e W => e = .returned (.bool (Db.sameES (ps.map Le.e) (qs.map Le.e))) ∧ Below w.heap.size w W := by
  have HP := Lib.hid hP
  have HQ := Lib.hid hQ
  have lI : (ps.length : Int) ≤ 1000000 := by omega
  have mI : (qs.length : Int) ≤ 1000000 := by omega
  clear hP hQ
  unfold Db.sameES
  rw [List.length_map, List.length_map]
  have HG := Lib.hid (show ∀ i, Db.sameEAt (ps.map Le.e) (qs.map Le.e) i = (decide (((ps.map Le.e).getD i Db.E.zero).key = ((qs.map Le.e).getD i Db.E.zero).key) && decide (((ps.map Le.e).getD i Db.E.zero).gone = ((qs.map Le.e).getD i Db.E.zero).gone) && It.sameB ((ps.map Le.e).getD i Db.E.zero).it ((qs.map Le.e).getD i Db.E.zero).it) from fun i => rfl)
  generalize Db.sameEAt (ps.map Le.e) (qs.map Le.e) = fB at *
  by_cases hlm : ps.length = qs.length
  rotate_left
  · have hne : ((ps.length : Int) == (qs.length : Int)) = false := by rw [beq_eq_false_iff_ne]; omega
    have hnm : ¬ (ps.length : Int) = (qs.length : Int) := by omega
    rw [decide_eq_false hlm, Bool.false_and]
    clear HP HQ HG
    generalize ps.length = x at *
    generalize qs.length = y at *
    go_enter Try.func43, Try.ntmps43
    go_wp2
    go_ret
    exact ⟨rfl, Below.refl _ _⟩
  rw [decide_eq_true hlm, ← hlm, Bool.true_and]
  have HLM := Lib.hid hlm
  clear hlm hm mI
  go_enter Try.func43, Try.ntmps43
  go_wp2_with fail
  go_loopw [6, 7, 8, 9, 17] (fun r _ _ _ i wr => ∃ n : Nat, n ≤ ps.length ∧ r = .bool false ∧ i = .int .i64 (n : Int) ∧ Hid (∀ j, j < n → fB j = true) ∧ Hid (Below w.heap.size w wr)) (fun _ _ _ _ i _ => ps.length - (intOf i).toNat)
  case atStart => exact ⟨0, Nat.zero_le _, rfl, rfl, Lib.hid (fun j h => by omega), Lib.hid (Below.refl _ _)⟩
  case round =>
    obtain ⟨n, hn', rfl, rfl, HJ, HB⟩ := hrel
    have k0 : (0 : Int) ≤ (n : Int) := by omega
    have wq1 : IntKind.i64.wrap ((n : Int) + 1) = (n : Int) + 1 := IntWalk.i64_in _ (by omega)
    by_cases hlt : n < ps.length
    · have k1 : (n : Int) < (ps.length : Int) := by omega
      have hlt' : n < qs.length := by have := HLM.out; omega
      obtain ⟨ba, oa, rfl, hba, hca⟩ := HP.out.get (by omega)
      obtain ⟨bb, ob, rfl, hbb, hcb⟩ := HQ.out.get (by omega)
      have hx := (hca n hlt).later hba HB.out
      have hy := (hcb n hlt').later hbb HB.out
      have hokx := HP.out.at hlt
      have hoky := HQ.out.at hlt'
      have hx2 : (ps.getD n Le.zero).Ok wr := ⟨hokx.1, hokx.2.later HB.out⟩
      have hy2 : (qs.getD n Le.zero).Ok wr := ⟨hoky.1, hoky.2.later HB.out⟩
      have HX := HG.out n
      rw [efs_key ps n hlt, efs_key qs n hlt'] at HX
      obtain ⟨p, hp⟩ : ∃ p, ps.getD n Le.zero = p := ⟨_, rfl⟩
      obtain ⟨q, hq⟩ : ∃ q, qs.getD n Le.zero = q := ⟨_, rfl⟩
      rw [hp] at hx hx2 HX
      rw [hq] at hy hy2 HX
      have HC := Lib.hid (fun W (h : Below wr.heap.size wr W) => same2_any p q W ⟨hx2.1, hx2.2.later h⟩ ⟨hy2.1, hy2.2.later h⟩)
      have hE : fB n = sameLe p q := HX
      obtain ⟨E, hEE⟩ : ∃ E, sameLe p q = E := ⟨_, rfl⟩
      unfold Le.v at HC
      rw [hEE] at HC hE
      have HE := Lib.hid hE
      have hbb2 : bb < wr.heap.size := Nat.lt_of_lt_of_le hbb HB.out.size
      have HY := Lib.hid hy
      obtain ⟨p0, p1, p2, p3, p4, p5, p6⟩ := hx
      clear hca hcb hokx hoky hx2 hy2 HX hp hq hE hEE hy
      go_upto_region 6 with (fail)
      obtain ⟨w2, hw2⟩ : ∃ w2, wr.alloc (.cells #[.string ⟨p.key.toArray⟩, .bool p.gone, .int .i64 p.it.k, .string ⟨p.it.s.toArray⟩, .slice p.it.aF p.it.fs.length p.it.cF, .slice p.it.aL p.it.ws.length p.it.cL, .int .i64 p.it.x] 61) = w2 := ⟨_, rfl⟩
      have hb2 : Below wr.heap.size wr w2 := by rw [← hw2]; exact (Below.refl _ wr).alloc (Nat.le_refl _) _
      have hx2 : EAt w2 wr.heap.size 0 p := by rw [← hw2]; exact effBox wr p
      have hz2 : wr.heap.size < w2.heap.size := by rw [← hw2]; simp
      rw [hw2]
      obtain ⟨q0, q1, q2, q3, q4, q5, q6⟩ := HY.out.later hbb2 hb2
      have HB2 := Lib.hid hb2
      have HX2 := Lib.hid hx2
      clear hw2 hb2 hx2 p0 p1 p2 p3 p4 p5 p6
      go_upto_region 7 with (fail)
      obtain ⟨w3, hw3⟩ : ∃ w3, w2.alloc (.cells #[.string ⟨q.key.toArray⟩, .bool q.gone, .int .i64 q.it.k, .string ⟨q.it.s.toArray⟩, .slice q.it.aF q.it.fs.length q.it.cF, .slice q.it.aL q.it.ws.length q.it.cL, .int .i64 q.it.x] 61) = w3 := ⟨_, rfl⟩
      have hb3 : Below w2.heap.size w2 w3 := by rw [← hw3]; exact (Below.refl _ w2).alloc (Nat.le_refl _) _
      have hy3 : EAt w3 w2.heap.size 0 q := by rw [← hw3]; exact effBox w2 q
      rw [hw3]
      clear q0 q1 q2 q3 q4 q5 q6
      obtain ⟨p0, p1, p2, p3, p4, p5, p6⟩ := HX2.out.later hz2 hb3
      obtain ⟨q0, q1, q2, q3, q4, q5, q6⟩ := hy3
      simp only [Nat.zero_add] at p0 p1 p2 p3 p4 p5 p6 q0 q1 q2 q3 q4 q5 q6
      have HB3 := Lib.hid (HB2.out.trans (hb3.mono HB2.out.size))
      clear hw3 hb3
      go_wp2_with fail
      refine (HC.out w3 HB3.out).mono ?_
      rintro e w4 ⟨rfl, hb4⟩
      have HB4 := Lib.hid (HB.out.trans ((HB3.out.trans (hb4.mono HB3.out.size)).mono HB.out.size))
      clear hb4 p0 p1 p2 p3 p4 p5 p6 q0 q1 q2 q3 q4 q5 q6
      cases E with
      | true =>
        go_wp2_with fail
        go_roundw
        case rel => exact ⟨n + 1, by omega, rfl, by go_num, Lib.hid (all_upto HJ.out HE.out), HB4⟩
        case measure => simp [intOf]; omega
      | false =>
        go_wp2_with fail
        go_ret
        exact ⟨by rw [all_false hlt HE.out]; rfl, HB4.out⟩
    · obtain rfl : n = ps.length := by omega
      have hnl : ¬ (ps.length : Int) < (ps.length : Int) := by omega
      have HT : Hid ((List.range ps.length).all fB = true) := Lib.hid (List.all_eq_true.2 fun j hj => HJ.out j (by simpa using hj))
      go_wp2
      go_ret
      exact ⟨by rw [HT.out]; rfl, HB.out⟩

end Go.Proofs.Ytihleddhjmejoaa
