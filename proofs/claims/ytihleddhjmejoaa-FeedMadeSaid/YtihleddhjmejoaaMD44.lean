/- The contract of the reference's Add (15.1). -/
import Derived.Test.YtihleddhjmejoaaMD40
namespace Go.Proofs.Ytihleddhjmejoaa
open Go.RowKit Go.Shelf
attribute [local go_sem] Oper.semAt_some
set_option linter.unusedVariables false
set_option linter.unusedSimpArgs false

theorem RowE.empty {w W : World} (hb : Below w.heap.size w W) : RowE w (.slice (some ⟨W.heap.size, 0, Option.none⟩) 0 0) [] (W.alloc (.cells #[] 61)) :=
  ⟨⟨rfl, .inr ⟨W.heap.size, 0, #[], rfl, hb.size, World.alloc_heap_new W _, Nat.le_refl _, by decide, rfl, rfl⟩⟩, hb.alloc hb.size _, by simp⟩

set_option maxRecDepth 100000 in
set_option maxHeartbeats 4000000 in
theorem refAdd_any (f : Fe) (b : Option Addr) (cb : Nat) (ls : List Le) (w : World) (hok : f.Ok w) (hL : Efs w b cb ls) (hb : b = none → cb = 0) (h0 : 0 ≤ f.off) (h1 : f.off ≤ 1152921504606846976) (hn : f.es.length ≤ 400) (hm : ls.length ≤ 400) :
    Calls Try.prog 18 #[f.v, .slice b ls.length cb] w (FeOut (Fd.add f.f (ls.map Le.e)) w) := by
  obtain ⟨iE, hiE, hiE0, hiE1, hiE2⟩ := info_parts infoE
  obtain ⟨w2, hw2⟩ : ∃ w2, (w.alloc (.cells #[.int .i64 f.rn, .int .i64 f.re, .int .i64 f.off, .slice f.a f.es.length f.c, .int .i64 f.pn, .int .i64 f.pe, .int .i64 f.unt] 26)).alloc (.cells #[.int .i64 0, .int .i64 0, .int .i64 0, .slice none 0 0, .int .i64 0, .int .i64 0, .int .i64 0] 26) = w2 := ⟨_, rfl⟩
  have hb2 : Below w.heap.size w w2 := by rw [← hw2]; exact ((Below.refl _ w).alloc (Nat.le_refl _) _).alloc (by simp) _
  have hx2 : FeBox w2 w.heap.size f := by rw [← hw2]; exact (Below.heap_alloc _ _ _ (by simp)).trans (FeBox.new w f)
  have hy2 : FeBox w2 (w.heap.size + 1) Fe.zero := by
    rw [← hw2]
    have := Fe.zero_new (w.alloc f.o)
    rwa [World.size_alloc] at this
  have HW := Lib.hid hw2
  have HX := Lib.hid hx2
  have HY := Lib.hid hy2
  have HB := Lib.hid hb2
  have HOK := Lib.hid (hok.1.later hb2)
  have HOA := Lib.hid hok.2
  have HL := Lib.hid (hL.later hb2)
  have HLB := Lib.hid hb
  clear hw2 hb2 hx2 hy2 hok hL hb
  obtain ⟨rn, re, off, a, es, c, pn, pe, unt⟩ := f
  unfold Fe.v
  simp only at h0 h1 hn HW HX HOK HOA ⊢
  obtain ⟨R, hR⟩ : ∃ R, Fd.add (Fe.f ⟨rn, re, off, a, es, c, pn, pe, unt⟩) (ls.map Le.e) = R := ⟨_, rfl⟩
  rw [hR]
  have HR : Hid (R = ⟨rn, re, off + (ls.length : Int), Fd.last (es.map Le.e ++ ls.map Le.e), pn, pe, unt⟩) := Lib.hid (by rw [← hR]; unfold Fd.add Fe.f; simp)
  clear hR
  obtain ⟨B, hB⟩ : ∃ B, B = w.heap.size := ⟨_, rfl⟩
  rw [← hB] at HX HY
  have HBB := Lib.hid hB
  go_enter Try.func18, Try.ntmps18
  go_upto_region 1 with (fail)
  rw [HW.out, ← hB]
  clear hB
  obtain ⟨⟨-, -, -, c3, -⟩, -⟩ := HX.out.at
  simp only at c3
  have HR0 := Lib.hid (RowE.empty (Below.refl w2.heap.size w2))
  have hW1 : Below w2.heap.size w2 (w2.alloc (.cells #[] 61)) := (Below.refl _ w2).alloc (Nat.le_refl _) _
  have HKN := Lib.hid (fun ad (h : a = some ad) => efs_news (show Efs (w2.alloc (.cells #[] 61)) (some ad) c es by rw [← h]; exact HOK.out.later hW1))
  have hol := HOK.out.len
  have hll := HL.out.len
  obtain ⟨⟨-, -, -, c3', -⟩, -⟩ := (HX.out.next hW1).at
  simp only at c3'
  have hBl2 := HX.out.lt
  clear hW1
  go_cut [5] (fun u W => Hid (RowE w2 u es W))
  case first =>
    cases a with
    | none =>
      obtain rfl : c = 0 := HOA.out rfl
      obtain rfl : es = [] := List.eq_nil_of_length_eq_zero (by omega)
      go_wp2_with (at_builtin; refine wpList_append_own_none rfl (.tmp 6) (.tmp 8) 24 rfl w2.heap.size 61 iE 7 Try.underlying24 hiE _ _ _ rfl HR0.out.1 rfl ?_)
      go_meet
      case rel => exact HR0
    | some ad =>
      have HN2 := Lib.hid (HKN.out ad rfl)
      go_wp2_with (at_builtin; refine wpList_append_own _ rfl (.tmp 6) (.tmp 8) 24 rfl w2.heap.size 61 iE _ 7 104 Try.underlying24 hiE hiE0 hiE1 hiE2 rfl (by decide) _ _ _ rfl HR0.out.1 ad es.length c (es.map Le.cs).flatten rfl (flatE_len es) HN2.out (flatE_one es) (by unfold maxLen; simp; omega) (by simp; omega) (by simp) ?_)
      intro v1 w3 hown hgrow _
      have HR1 := Lib.hid (RowE.many (es := []) (ls := es) HR0.out (by simpa using hown) hgrow HOK.out.2)
      rw [List.nil_append] at HR1
      clear hown hgrow
      go_wp2_with fail
      go_meet
      case rel => exact HR1
  case rest =>
  have HRc := hcut
  clear hcut HKN HR0 c3 c3' hBl2
  obtain ⟨wb, rfl⟩ : ∃ wb : World, wb = wc := ⟨_, rfl⟩
  have hzb := HRc.out.2.1.size
  go_upto_region 2 with (fail)
  go_cut [5] (fun u W => Hid (RowE w2 u (es ++ ls) W))
  case first =>
    cases b with
    | none =>
      obtain rfl : cb = 0 := HLB.out rfl
      obtain rfl : ls = [] := List.eq_nil_of_length_eq_zero (by omega)
      go_wp2_with (at_builtin; refine wpList_append_own_none rfl (.tmp 10) (.tmp 11) 24 rfl w2.heap.size 61 iE 7 Try.underlying24 hiE _ _ _ rfl HRc.out.1 rfl ?_)
      go_meet
      case rel => rw [List.append_nil]; exact HRc
    | some ad =>
      have HN2 := Lib.hid (efs_news (HL.out.later HRc.out.2.1))
      go_wp2_with (at_builtin; refine wpList_append_own _ rfl (.tmp 10) (.tmp 11) 24 rfl w2.heap.size 61 iE _ 7 104 Try.underlying24 hiE hiE0 hiE1 hiE2 rfl (by decide) _ _ _ rfl HRc.out.1 ad ls.length cb (ls.map Le.cs).flatten rfl (flatE_len ls) HN2.out (flatE_one ls) (by unfold maxLen; omega) (by omega) (by omega) ?_)
      intro v1 w3 hown hgrow _
      have HR1 := Lib.hid (RowE.many HRc.out hown hgrow HL.out.2)
      clear hown hgrow
      go_wp2_with fail
      go_meet
      case rel => exact HR1
  case rest =>
  obtain ⟨xs, hxs⟩ : ∃ xs, es ++ ls = xs := ⟨_, rfl⟩
  rw [hxs] at hcut
  have hxl : xs.length = es.length + ls.length := by rw [← hxs, List.length_append]
  have hrow := hcut.out
  obtain ⟨ua, uc, rfl, hue, hun⟩ := hrow.efs
  have hbw := hrow.2.1
  have HXc := Lib.hid (HX.out.next hbw)
  have HYc := Lib.hid (HY.out.next hbw)
  have HBc := Lib.hid (HB.out.trans (hbw.mono HB.out.size))
  have HUE := Lib.hid hue
  have HUN := Lib.hid hun
  have hul := hue.len
  have hxn : xs.length ≤ 800 := by omega
  obtain ⟨fo, hfo⟩ : ∃ fo : Int, off + (ls.length : Int) = fo := ⟨_, rfl⟩
  have wq : IntKind.i64.wrap (off + (ls.length : Int)) = fo := by rw [IntWalk.i64_in _ (by omega), hfo]
  have HRR : Hid (R = ⟨rn, re, fo, Fd.last (xs.map Le.e), pn, pe, unt⟩) := Lib.hid (by rw [HR.out, hfo, ← hxs, List.map_append])
  clear hcut hrow hue hun hbw HRc hxs hfo hzb HR
  obtain ⟨⟨-, -, c2, -⟩, -, -, f2, -⟩ := HXc.out.at
  simp only at c2
  go_upto_region 4 with (fail)
  obtain ⟨w4, hw4⟩ : ∃ w4, wc.setCell ⟨B, 2, none⟩ (.int .i64 fo) = w4 := ⟨_, rfl⟩
  have hx4 := HXc.out.set2 fo
  have hy4 := HYc.out.setFar (g := B) (by omega) 2 (.int .i64 fo)
  have hk4 := HXc.out.setT 2 (.int .i64 fo)
  have hb4 : Below w.heap.size w (wc.setCell ⟨B, 2, none⟩ (.int .i64 fo)) := HBc.out.setCell (p := ⟨B, 2, none⟩) (by simp only; rw [HBB.out]; exact Nat.le_refl _) _
  rw [hw4] at hx4 hy4 hk4 hb4 ⊢
  have HE4 := Lib.hid (HUE.out.keepT hk4)
  have HX4 := Lib.hid hx4
  have HY4 := Lib.hid hy4
  have HB4 := Lib.hid hb4
  simp only at HX4
  clear hw4 hx4 hy4 hk4 hb4 c2 f2 HXc HYc HBc HUE
  have fin : ∀ (a2 : Option Addr) (ys : List Le) (c2 : Nat), Efs w4 a2 c2 ys → (a2 = none → c2 = 0) → ys.map Le.e = Fd.last (xs.map Le.e) →
      FeBox (w4.setCell ⟨B, 3, none⟩ (.slice a2 ys.length c2)) B ⟨rn, re, fo, a2, ys, c2, pn, pe, unt⟩ ∧ FeBox (w4.setCell ⟨B, 3, none⟩ (.slice a2 ys.length c2)) (B + 1) Fe.zero ∧
      FeOut R w (.returned (Fe.v ⟨rn, re, fo, a2, ys, c2, pn, pe, unt⟩)) (stFe (w4.setCell ⟨B, 3, none⟩ (.slice a2 ys.length c2)) (B + 1) ⟨rn, re, fo, a2, ys, c2, pn, pe, unt⟩) := fun a2 ys c2 h1 h2 h3 => by
    have hx := HX4.out.set3 a2 ys c2
    have hy := HY4.out.setFar (g := B) (by omega) 3 (.slice a2 ys.length c2)
    have hk := HX4.out.setT 3 (.slice a2 ys.length c2)
    have hz := HBB.out
    refine ⟨hx, hy, ⟨rn, re, fo, a2, ys, c2, pn, pe, unt⟩, rfl, ⟨(h1.keepT hk).keepT (stFe_T hy _), h2⟩, ?_, stFe_below (HB4.out.setCell (p := ⟨B, 3, none⟩) (by simp only; omega) _) (by omega) _⟩
    rw [HRR.out]
    unfold Fe.f
    rw [h3]
  have FIN := Lib.hid fin
  clear fin
  obtain ⟨m, hm'⟩ : ∃ m, xs.length - 64 = m := ⟨_, rfl⟩
  have hlast : (xs.drop m).map Le.e = Fd.last (xs.map Le.e) := by unfold Fd.last; rw [List.length_map, hm', List.map_drop]
  have HLA := Lib.hid hlast
  have xm : max (0 : Int) ((xs.length : Int) - 64) = (m : Int) := by omega
  have xw : IntKind.i64.wrap ((xs.length : Int) - 64) = (xs.length : Int) - 64 := IntWalk.i64_in _ (by omega)
  have xm1 : (m : Int) ≤ (xs.length : Int) := by omega
  have xm0 : (0 : Int) ≤ (m : Int) := by omega
  have xm2 : (xs.length : Int) ≤ (uc : Int) := by omega
  have hdl : (xs.drop m).length = xs.length - m := List.length_drop
  obtain ⟨⟨-, -, -, d3, -⟩, -, -, -, g3, -⟩ := HX4.out.at
  simp only at d3
  clear hlast
  cases ua with
  | none =>
    have huc : uc = 0 := HUN.out rfl
    have hx0 : xs = [] := List.eq_nil_of_length_eq_zero (by omega)
    subst hx0
    subst huc
    have hm0 : m = 0 := by simpa using hm'.symm
    subst hm0
    have HF := Lib.hid (FIN.out none [] 0 (efs_nil _) (fun _ => rfl) rfl)
    simp only [List.length_nil] at HF xm xw ⊢
    clear hm' xm1 xm0 xm2 hdl hxl hul
    go_upto_region 5 with (fail)
    obtain ⟨w5, hw5⟩ : ∃ w5, w4.setCell ⟨B, 3, none⟩ (.slice (none) (0) (0)) = w5 := ⟨_, rfl⟩
    rw [hw5] at HF ⊢
    clear hw5 d3 g3
    obtain ⟨⟨c0, c1, c2, c3, c4, c5, c6⟩, -⟩ := HF.out.1.at
    obtain ⟨⟨y0, y1, y2, y3, y4, y5, y6⟩, z0, z1, z2, z3, z4, z5, z6⟩ := HF.out.2.1.at
    simp only [Fe.zero, List.length_nil] at c0 c1 c2 c3 c4 c5 c6 y0 y1 y2 y3 y4 y5 y6
    go_wp2_with fail
    have h9 := loadFe (HF.out.2.1.store ⟨rn, re, fo, none, [], 0, pn, pe, unt⟩)
    have hF := HF.out.2.2
    unfold stFe at h9 hF
    simp only [List.length_nil] at h9 hF
    exact bodyPost_ret (results_cell rfl rfl h9) rfl hF
  | some ad =>
    by_cases hcm : uc = m
    · have hx0 : xs = [] := List.eq_nil_of_length_eq_zero (by omega)
      subst hx0
      have hm0 : m = 0 := by simpa using hm'.symm
      subst hm0
      subst hcm
      have HF := Lib.hid (FIN.out (some ad) [] 0 HE4.out (fun h => (by cases h)) rfl)
      simp only [List.length_nil] at HF xm xw ⊢
      clear hm' xm1 xm0 xm2 hdl hxl hul
      go_upto_region 5 with (fail)
      obtain ⟨w5, hw5⟩ : ∃ w5, w4.setCell ⟨B, 3, none⟩ (.slice (some ad) (0) (0)) = w5 := ⟨_, rfl⟩
      rw [hw5] at HF ⊢
      clear hw5 d3 g3
      obtain ⟨⟨c0, c1, c2, c3, c4, c5, c6⟩, -⟩ := HF.out.1.at
      obtain ⟨⟨y0, y1, y2, y3, y4, y5, y6⟩, z0, z1, z2, z3, z4, z5, z6⟩ := HF.out.2.1.at
      simp only [Fe.zero, List.length_nil] at c0 c1 c2 c3 c4 c5 c6 y0 y1 y2 y3 y4 y5 y6
      go_wp2_with fail
      have h9 := loadFe (HF.out.2.1.store ⟨rn, re, fo, some ad, [], 0, pn, pe, unt⟩)
      have hF := HF.out.2.2
      unfold stFe at h9 hF
      simp only [List.length_nil] at h9 hF
      exact bodyPost_ret (results_cell rfl rfl h9) rfl hF
    · have hcm' : ¬ (uc : Int) = (m : Int) := by omega
      have hef : Efs w4 (some (ad.add (m * 7))) (uc - m) (xs.drop m) := by
        by_cases hx0 : xs = []
        · subst hx0
          have h := HE4.out
          rw [List.drop_nil]
          exact ⟨⟨Nat.zero_le _, by have := h.1.2.1; omega, .inl rfl⟩, by simp⟩
        · obtain ⟨xb, xo, e, -⟩ := HE4.out.get (List.length_pos_iff.2 hx0)
          cases e
          rw [Addr.add_flat]
          exact HE4.out.drop m (by omega)
      have HF := Lib.hid (FIN.out (some (ad.add (m * 7))) (xs.drop m) (uc - m) hef (fun h => (by cases h)) HLA.out)
      rw [hdl] at HF
      clear hef hm' hdl hxl hul
      have hdl2 : (xs.drop m).length = xs.length - m := List.length_drop
      go_upto_region 5 with (fail)
      obtain ⟨w5, hw5⟩ : ∃ w5, w4.setCell ⟨B, 3, none⟩ (.slice (some (ad.add (m * 7))) (xs.length - m) ((uc - m))) = w5 := ⟨_, rfl⟩
      rw [hw5] at HF ⊢
      clear hw5 d3 g3
      obtain ⟨⟨c0, c1, c2, c3, c4, c5, c6⟩, -⟩ := HF.out.1.at
      obtain ⟨⟨y0, y1, y2, y3, y4, y5, y6⟩, z0, z1, z2, z3, z4, z5, z6⟩ := HF.out.2.1.at
      simp only [Fe.zero, List.length_nil, hdl2] at c0 c1 c2 c3 c4 c5 c6 y0 y1 y2 y3 y4 y5 y6
      go_wp2_with fail
      have h9 := loadFe (HF.out.2.1.store ⟨rn, re, fo, some (ad.add (m * 7)), (xs.drop m), (uc - m), pn, pe, unt⟩)
      have hF := HF.out.2.2
      unfold stFe at h9 hF
      simp only [List.length_nil, hdl2] at h9 hF
      exact bodyPost_ret (results_cell rfl rfl h9) rfl hF
end Go.Proofs.Ytihleddhjmejoaa
