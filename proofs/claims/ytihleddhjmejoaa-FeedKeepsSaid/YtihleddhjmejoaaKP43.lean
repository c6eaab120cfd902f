/- The walk of the law FeedKeeps. -/
import Derived.Test.YtihleddhjmejoaaKP42
namespace Go.Proofs.Ytihleddhjmejoaa
open Go.RowKit Go.Shelf
attribute [local go_sem] Oper.semAt_some
set_option linter.unusedVariables false
set_option linter.unusedSimpArgs false

/-- what holds behind so many rounds. -/
def KpI (w1 : World) (B : Nat) (ls : List Le) (n : Nat) (u : Value) (wr : World) : Prop :=
  ∃ f g : Fe, RowE w1 u (List.replicate n ls).flatten wr ∧ FeBox wr B f ∧ FeBox wr (B + 1) g ∧ f.Ok wr ∧ g.Ok wr ∧ f.f = Fd.rep (ls.map Le.e) n ∧ g.f = Fd.rep (ls.map Le.e) n
/-- .. and within a round, behind so many effects. -/
def KpJ (w1 : World) (B : Nat) (ls : List Le) (n : Nat) (xs : List Le) (u : Value) (f : Fe) (z : Nat) (k : Nat) (wr : World) : Prop :=
  ∃ g : Fe, RowE w1 u xs wr ∧ FeBox wr B f ∧ FeBox wr (B + 1) g ∧ f.Ok wr ∧ g.Ok wr ∧ g.f = Fd.add (Fd.rep (ls.map Le.e) n) ((ls.take k).map Le.e) ∧ (0 < k → g.New z) ∧ z ≤ wr.heap.size
theorem Fe.New.mono {n m : Nat} {g : Fe} (h : g.New n) (hm : m ≤ n) : g.New m := ⟨fun b o e => Nat.le_trans hm (h.1 b o e), fun e he k hk => h.2 e he k (by omega)⟩
theorem fe_sm {f : Fe} {l : List Db.E} (h : ∀ x ∈ f.f.back, x ∈ l) (hl : ∀ x ∈ l, x.Sm) : ∀ e ∈ f.es, e.e.Sm := fun e he => hl _ (h _ (List.mem_map_of_mem he))
theorem fe_len {f : Fe} (h : f.f.back.length ≤ 64) : f.es.length ≤ 64 := by simpa [Fe.f] using h
theorem flat_rep (ls : List Le) (n : Nat) : (List.replicate n ls).flatten.length = n * ls.length := by
  induction n with
  | zero => simp
  | succ n ih => rw [List.replicate_succ', List.flatten_append, List.length_append, ih, Nat.succ_mul]; simp
theorem flat_repE (ls : List Le) (n : Nat) : (List.replicate n ls).flatten.map Le.e = (List.replicate n (ls.map Le.e)).flatten := by
  rw [List.map_flatten, List.map_replicate]

set_option maxRecDepth 100000 in
set_option maxHeartbeats 8000000 in
theorem feedKeeps_walk (p : Option Addr) (cap : Nat) (ns : List UInt8) (tm : Int) (w : World) (hB : Bytes w p ns) (hl : ns.length ≤ cap) (hm : ns.length ≤ maxLen) (e0 : 0 ≤ tm) (e1 : tm ≤ 255) :
    Calls Try.prog 6 #[.slice p ns.length cap, .int .u8 tm] w fun e w' => e = .returned (.bool true) ∧ Below w.heap.size w w' := by
  have HAW := Lib.hid (fun W => fe_awake_any W)
  by_cases hsm : ns.length < 4
  · have k1 : (ns.length : Int) < 4 := by omega
    clear hB
    go_enter Try.func6, Try.ntmps6
    go_wp2_with fail
    refine (HAW.out _).mono ?_
    rintro e wz ⟨rfl, hb⟩
    have HBZ := Lib.hid hb
    clear hb
    go_wp2_with fail
    go_ret
    exact ⟨rfl, HBZ.out⟩
  have k1 : ¬ (ns.length : Int) < 4 := by omega
  by_cases hbig : 120 < ns.length
  · have k2 : (120 : Int) < (ns.length : Int) := by omega
    clear hB
    go_enter Try.func6, Try.ntmps6
    go_wp2_with fail
    refine (HAW.out _).mono ?_
    rintro e wz ⟨rfl, hb⟩
    have HBZ := Lib.hid hb
    clear hb
    go_wp2_with fail
    go_ret
    exact ⟨rfl, HBZ.out⟩
  have k2 : ¬ (120 : Int) < (ns.length : Int) := by omega
  obtain ⟨iE, hiE, hiE0, hiE1, hiE2⟩ := info_parts infoE
  have HEF := Lib.hid (efs_any p cap ns w hB hl (by omega))
  have HNL : Hid (0 < (numE ns).length) := Lib.hid (by unfold numE effsT; simp; omega)
  clear hB
  go_enter Try.func6, Try.ntmps6
  go_wp2_with fail
  refine HEF.out.mono ?_
  rintro e w1 ⟨b, cb, ls, rfl, hls, hnb, hq, hb⟩
  have hln : ls.length ≤ 40 := by have := numE_len ns; rw [← hq, List.length_map] at this; exact this
  have hl0 : 0 < ls.length := by have := HNL.out; rw [← hq, List.length_map] at this; exact this
  have HSL : Hid (∀ x ∈ ls.map Le.e, x.Sm) := Lib.hid fun x h => numE_sm (ns := ns) x (by rw [← hq]; exact h)
  have HB1 := Lib.hid hb
  have HLS := Lib.hid hls
  have HNB := Lib.hid hnb
  clear hls hnb hq hb HNL HEF
  obtain ⟨w2, hw2⟩ : ∃ w2, (w1.alloc (.cells #[.int .i64 0, .int .i64 0, .int .i64 0, .slice none 0 0, .int .i64 0, .int .i64 0, .int .i64 0] 26)).alloc (.cells #[.int .i64 0, .int .i64 0, .int .i64 0, .slice none 0 0, .int .i64 0, .int .i64 0, .int .i64 0] 26) = w2 := ⟨_, rfl⟩
  have hb2 : Below w1.heap.size w1 w2 := by rw [← hw2]; exact ((Below.refl _ w1).alloc (Nat.le_refl _) _).alloc (by simp) _
  have hx2 : FeBox w2 w1.heap.size Fe.zero := by rw [← hw2]; exact (Below.heap_alloc _ _ _ (by simp)).trans (Fe.zero_new w1)
  have hy2 : FeBox w2 (w1.heap.size + 1) Fe.zero := by
    rw [← hw2]
    have := Fe.zero_new (w1.alloc Fe.zero.o)
    rwa [World.size_alloc] at this
  have HI0 : Hid (KpI w1 w1.heap.size ls 0 (.slice none 0 0) w2) := Lib.hid ⟨Fe.zero, Fe.zero, RowE.none hb2, hx2, hy2, Fe.zero_ok _, Fe.zero_ok _, rfl, rfl⟩
  have HW2 := Lib.hid hw2
  clear hw2 hb2 hx2 hy2
  obtain ⟨y, hy⟩ : ∃ y, tm.tmod 6 = y := ⟨_, rfl⟩
  have hyb : 0 ≤ y ∧ y ≤ 5 := by rw [← hy, Int.tmod_eq_emod_of_nonneg e0]; omega
  have hy2 : tm % 6 = y := by rw [← hy, Int.tmod_eq_emod_of_nonneg e0]
  have wt : IntKind.i64.wrap tm = tm := IntWalk.i64_in _ (by omega)
  have wy : IntKind.i64.wrap (1 + y) = 1 + y := IntWalk.i64_in _ (by omega)
  go_upto_region 6 with (fail)
  rw [HW2.out]
  obtain ⟨B, hBB⟩ : ∃ B, B = w1.heap.size := ⟨_, rfl⟩
  rw [← hBB] at HI0 ⊢
  have HBB := Lib.hid hBB
  clear hBB
  go_wp2_with fail
  go_loopw [6, 9, 10] (fun u i _ wr => ∃ n : Nat, i = .int .i64 n ∧ (n : Int) ≤ 1 + y ∧ Hid (KpI w1 B ls n u wr)) (fun _ i _ _ => (1 + y).toNat - (intOf i).toNat)
  case atStart => exact ⟨0, rfl, by omega, HI0⟩
  case round =>
    obtain ⟨n, rfl, hny, HI⟩ := hrel
    by_cases hlt : (n : Int) < 1 + y
    · obtain ⟨f, g, hrow, hxf, hxg, hfo, hgo, hff, hgf⟩ := HI.out
      have hwr := hrow.2.1
      have hzr := hwr.size
      have hn5 : n ≤ 5 := by omega
      obtain ⟨X, hX⟩ : ∃ X, (List.replicate n ls).flatten = X := ⟨_, rfl⟩
      rw [hX] at hrow
      obtain ⟨ua, uc, rfl, -, hun⟩ := hrow.efs
      have hXl : X.length ≤ 200 := by
        rw [← hX, flat_rep]
        exact Nat.mul_le_mul hn5 hln
      have hfl := fe_len (f := f) (by rw [hff]; exact Fd.rep_back _ _)
      have hfof : f.off = ((List.replicate n (ls.map Le.e)).flatten.length : Int) := by rw [← Fd.rep_off, ← hff]; rfl
      have hfo2 : 0 ≤ f.off ∧ f.off ≤ 1000 := by
        rw [hfof, ← flat_repE, List.length_map, flat_rep]
        have : n * ls.length ≤ 5 * 40 := Nat.mul_le_mul hn5 hln
        omega
      have hAD := add_new f b cb ls wr hfo (HLS.out.later hwr) HNB.out hfo2.1 (by omega) (fe_sm (l := ls.map Le.e) (by rw [hff]; exact Fd.rep_mem _ _) HSL.out) (fun e he => HSL.out _ (List.mem_map_of_mem he)) (by omega) (by omega)
      rw [hff] at hAD
      have HAD := Lib.hid hAD
      have HROW := Lib.hid hrow
      have HXX := Lib.hid hX
      have HXF := Lib.hid hxf
      have HXG := Lib.hid hxg
      have HGO := Lib.hid hgo
      have HGF := Lib.hid hgf
      have HUN := Lib.hid hun
      obtain ⟨rn, re, off, a, es, c, pn, pe, unt⟩ := f
      unfold Fe.v at HAD
      simp only at HAD
      clear hrow hxf hxg hfo hgo hff hgf hfl hfof hfo2 hAD hun HI hX
      obtain ⟨⟨c0, c1, c2, c3, c4, c5, c6⟩, z0, z1, z2, z3, z4, z5, z6⟩ := HXF.out.at
      simp only at c0 c1 c2 c3 c4 c5 c6
      go_wp2_with fail
      refine HAD.out.mono ?_
      rintro e w3 ⟨f, rfl, hfo, hff, hb3, hnew⟩
      have hx3 := HXF.out.next hb3
      have hrow3 := HROW.out.late hb3
      have hg3 := HXG.out.next hb3
      have hgo3 := HGO.out.later hb3
      obtain ⟨w4, hw4⟩ : ∃ w4, stFe w3 B f = w4 := ⟨_, rfl⟩
      have hk4 : Keeps (fun k => k ≠ B) w3 (stFe w3 B f) := stFe_keeps (Keeps.refl _ w3) (.inr (by simp)) f
      have hT4 := stFe_T hx3 f
      have hx4 := hx3.store f
      rw [hw4] at hk4 hT4 hx4
      have hg4 : FeBox w4 (B + 1) _ := hk4.heap hg3 (by omega)
      have hrow4 := hrow3.keepNe hx3 (by rw [HBB.out]; exact Nat.le_refl _) hk4
      have hz4 : wr.heap.size ≤ w4.heap.size := Nat.le_trans hb3.size hk4.size
      have HJ0 : Hid (KpJ w1 B ls n X (.slice ua X.length uc) f wr.heap.size 0 w4) := Lib.hid ⟨g, hrow4, hx4, hg4, hfo.keepT hT4, hgo3.keepT hT4, by rw [HGF.out]; exact (Fd.add_nil (Fd.rep_back _ _)).symm, fun h => by omega, hz4⟩
      have HFF : Hid (f.f = Fd.rep (ls.map Le.e) (n + 1)) := Lib.hid hff
      have HFN := Lib.hid hnew
      have HW4 := Lib.hid hw4
      have HX3 := Lib.hid hx3
      clear c0 c1 c2 c3 c4 c5 c6 z0 z1 z2 z3 z4 z5 z6 hfo hff hb3 hnew hx3 hrow3 hg3 hgo3 hw4 hk4 hT4 hx4 hg4 hrow4
      obtain ⟨rn3, re3, off3, a3, es3, c3, pn3, pe3, unt3⟩ := f
      obtain ⟨⟨c0, c1, c2, c3', c4, c5, c6⟩, z0, z1, z2, z3, z4, z5, z6⟩ := HX3.out.at
      simp only at c0 c1 c2 c3' c4 c5 c6
      unfold Fe.v
      simp only
      have hw4e : stFe w3 B ⟨rn3, re3, off3, a3, es3, c3, pn3, pe3, unt3⟩ = w4 := HW4.out
      unfold stFe at hw4e
      simp only at hw4e
      have HW4' := Lib.hid hw4e
      clear hw4e
      obtain ⟨wo, hwo⟩ : ∃ wo : World, wo = wr := ⟨_, rfl⟩
      rw [← hwo] at HJ0 HFN hz4 hzr
      have HWO := Lib.hid hwo
      have HRO : Hid (∀ g, (Value.slice ua X.length uc).ownBlock = some g → g < wo.heap.size) := Lib.hid fun g e => by rw [hwo]; exact (HROW.out.1.lt g e).2
      clear hwo
      go_upto_region 10 with (fail)
      rw [HW4'.out]
      clear c0 c1 c2 c3' c4 c5 c6 z0 z1 z2 z3 z4 z5 z6
      go_wp2_with fail
      go_loopw [10] (fun k wi => ∃ q : Nat, q ≤ ls.length ∧ k = .int .i64 q ∧ Hid (KpJ w1 B ls n X (.slice ua X.length uc) ⟨rn3, re3, off3, a3, es3, c3, pn3, pe3, unt3⟩ wo.heap.size q wi)) (fun k _ => ls.length - (intOf k).toNat)
      case atStart => exact ⟨0, Nat.zero_le _, rfl, HJ0⟩
      case round =>
        obtain ⟨q, hql, rfl, HJ⟩ := hrel
        by_cases hq : q < ls.length
        · obtain ⟨g, hrow, hxf, hxg, hfo, hgo, hgf, hgn, hzo⟩ := HJ.out
          have hwi := hrow.2.1
          have hlsw := HLS.out.later hwi
          obtain ⟨lb, lo, hlb, hbl, hlc⟩ := hlsw.get hl0
          subst hlb
          have hx := hlc q hq
          have hokx := hlsw.at hq
          have hmem : ls.getD q Le.zero ∈ ls := by rw [getD_eq hq]; exact List.getElem_mem hq
          have hsx : (ls.getD q Le.zero).e.Sm := HSL.out _ (List.mem_map_of_mem hmem)
          have HTK : Hid ((ls.take (q + 1)).map Le.e = (ls.take q).map Le.e ++ [(ls.getD q Le.zero).e]) := Lib.hid (by rw [take_succ_getD (d := Le.zero) hq, List.map_append]; rfl)
          have hgm : ∀ x ∈ g.f.back, x ∈ ls.map Le.e := fun x h => by
            rw [hgf] at h
            unfold Fd.add Fd.last at h
            rcases List.mem_append.1 (List.mem_of_mem_drop h) with h | h
            · exact Fd.rep_mem _ _ x h
            · obtain ⟨y, hy, rfl⟩ := List.mem_map.1 h
              exact List.mem_map_of_mem (List.mem_of_mem_take hy)
          have hgl := fe_len (f := g) (by rw [hgf]; exact Fd.last_len _)
          have hgo2 : 0 ≤ g.off ∧ g.off ≤ 1000 := by
            have h1 : g.off = (Fd.rep (ls.map Le.e) n).off + (((ls.take q).map Le.e).length : Int) := congrArg Fd.F.off hgf
            rw [Fd.rep_off, ← flat_repE, List.length_map, flat_rep, List.length_map, List.length_take] at h1
            have : n * ls.length ≤ 5 * 40 := Nat.mul_le_mul hn5 hln
            omega
          obtain ⟨x, hxx⟩ : ∃ x, ls.getD q Le.zero = x := ⟨_, rfl⟩
          rw [hxx] at hx hokx hsx HTK
          have HAD2 := Lib.hid (fun W (h : Below wr.heap.size wr W) => add_new g (some ⟨W.heap.size, 0, none⟩) 1 [x] (effW W x) ((hgo.later h).later (effW_below W x)) (efs_one (effW_at W x) (effW_size W x) ⟨hokx.1, hokx.2.later (h.trans ((effW_below W x).mono h.size))⟩) (fun h => (by cases h)) hgo2.1 (by omega) (fe_sm hgm HSL.out) (fun e he => by rw [List.mem_singleton.1 he]; exact hsx) (by omega) (by simp))
          have HKE : Hid (∀ (W : World) (g' : Fe), Below wr.heap.size wr W → g'.Ok W → g'.f = Fd.add g.f [x.e] → g'.New wo.heap.size → KpJ w1 B ls n X (.slice ua X.length uc) ⟨rn3, re3, off3, a3, es3, c3, pn3, pe3, unt3⟩ wo.heap.size (q + 1) (stFe W (B + 1) g')) := Lib.hid fun W g' hb h1 h2 h3 => by
            have hxg' := hxg.next hb
            have hk : Keeps (fun k => k ≠ B + 1) W (stFe W (B + 1) g') := stFe_keeps (Keeps.refl _ W) (.inr (by simp)) g'
            have hT := stFe_T hxg' g'
            refine ⟨g', (hrow.late hb).keepNe hxg' (by rw [HBB.out]; omega) hk, hk.heap (hxf.next hb) (by omega), hxg'.store g', (hfo.later hb).keepT hT, h1.keepT hT, ?_, fun _ => h3, by have := hb.size; have := hk.size; omega⟩
            rw [h2, hgf, HTK.out, Fd.add_add]
          have HXG2 := Lib.hid hxg
          clear hrow hxf hfo hgo hgf hgn hwi hlsw hlc hokx hmem hsx hgm hgl hgo2 hxx
          obtain ⟨grn, gre, goff, ga, ges, gc, gpn, gpe, gunt⟩ := g
          obtain ⟨key, gone, ke, se, aF, fs, cF, aL, ws, cL, xx⟩ := x
          unfold effW at HAD2
          unfold Fe.v at HAD2
          simp only at HAD2
          obtain ⟨⟨g0, g1, g2, g3, g4, g5, g6⟩, -⟩ := HXG2.out.at
          obtain ⟨q0, q1, q2, q3, q4, q5, q6⟩ := hx
          simp only at g0 g1 g2 g3 g4 g5 g6 q0 q1 q2 q3 q4 q5 q6
          have hGl := HXG2.out.lt
          have k0' : (0 : Int) ≤ (q : Int) := by omega
          have k1' : (q : Int) < (ls.length : Int) := by omega
          have HS0 : Below wr.heap.size wr wr.drew := (Below.refl _ wr).drew
          go_wp2_with fail
          refine wp_region_L (S := fun W => Below wr.heap.size wr W) (f := 7) (by kernel_rfl) ?_
          refine wpAnyL_take (i := 0) (some 39) (v := .agg #[.int .i64 grn, .int .i64 gre, .int .i64 goff, .slice ga ges.length gc, .int .i64 gpn, .int .i64 gpe, .int .i64 gunt]) rfl rfl (by kernel_rfl) (by kernel_rfl) (by kernel_rfl) (by kernel_rfl) (fun _ _ _ h => h) (by rfl) (fun W hS => ?_) HS0 ?_
          · have m0 := (hS.cell (p := ⟨B + 1, 0, none⟩) hGl).trans g0
            have m1 := (hS.cell (p := ⟨B + 1, 1, none⟩) hGl).trans g1
            have m2 := (hS.cell (p := ⟨B + 1, 2, none⟩) hGl).trans g2
            have m3 := (hS.cell (p := ⟨B + 1, 3, none⟩) hGl).trans g3
            have m4 := (hS.cell (p := ⟨B + 1, 4, none⟩) hGl).trans g4
            have m5 := (hS.cell (p := ⟨B + 1, 5, none⟩) hGl).trans g5
            have m6 := (hS.cell (p := ⟨B + 1, 6, none⟩) hGl).trans g6
            go_simp
          try simp only [Act.put, List.setIfInBounds_toArray, List.set_cons_zero, List.set_cons_succ]
          refine wpAnyL_take (i := 1) (some 40) (v := .slice (some ⟨lb, lo, none⟩) ls.length cb) rfl rfl (by kernel_rfl) (by kernel_rfl) (by kernel_rfl) (by kernel_rfl) (fun _ _ _ h => h) (by rfl) (fun W hS => ?_) HS0 ?_
          · go_simp
          try simp only [Act.put, List.setIfInBounds_toArray, List.set_cons_zero, List.set_cons_succ]
          refine wpAnyL_take (i := 2) (some 41) (v := .int .i64 (q : Int)) rfl rfl (by kernel_rfl) (by kernel_rfl) (by kernel_rfl) (by kernel_rfl) (fun _ _ _ h => h) (by rfl) (fun W hS => ?_) HS0 ?_
          · go_simp
          try simp only [Act.put, List.setIfInBounds_toArray, List.set_cons_zero, List.set_cons_succ]
          refine wpAnyL_take (i := 3) (some 42) (v := .pointer (some ⟨lb, lo + q * 7, none⟩)) rfl rfl (by kernel_rfl) (by kernel_rfl) (by kernel_rfl) (by kernel_rfl) (fun _ _ _ h => h) (by rfl) (fun W hS => ?_) HS0 ?_
          · go_simp
          try simp only [Act.put, List.setIfInBounds_toArray, List.set_cons_zero, List.set_cons_succ]
          refine wpAnyL_take (i := 4) (some 43) (v := .agg #[.string ⟨key.toArray⟩, .bool gone, .int .i64 ke, .string ⟨se.toArray⟩, .slice aF fs.length cF, .slice aL ws.length cL, .int .i64 xx]) rfl rfl (by kernel_rfl) (by kernel_rfl) (by kernel_rfl) (by kernel_rfl) (fun _ _ _ h => h) (by rfl) (fun W hS => ?_) HS0 ?_
          · have m0 := (hS.cell (p := ⟨lb, lo + q * 7, none⟩) hbl).trans q0
            have m1 := (hS.cell (p := ⟨lb, lo + q * 7 + 1, none⟩) hbl).trans q1
            have m2 := (hS.cell (p := ⟨lb, lo + q * 7 + 2, none⟩) hbl).trans q2
            have m3 := (hS.cell (p := ⟨lb, lo + q * 7 + 3, none⟩) hbl).trans q3
            have m4 := (hS.cell (p := ⟨lb, lo + q * 7 + 4, none⟩) hbl).trans q4
            have m5 := (hS.cell (p := ⟨lb, lo + q * 7 + 5, none⟩) hbl).trans q5
            have m6 := (hS.cell (p := ⟨lb, lo + q * 7 + 6, none⟩) hbl).trans q6
            go_simp
          try simp only [Act.put, List.setIfInBounds_toArray, List.set_cons_zero, List.set_cons_succ]
          refine wpAnyL_one (j := 5) (by kernel_rfl) rfl (by rfl) (fun K hK => ?_)
          refine oper_wp_val (v := .slice (some ⟨wr.drew.heap.size, 0, none⟩) 1 1) (w' := wr.drew.alloc (.cells #[.string ⟨key.toArray⟩, .bool gone, .int .i64 ke, .string ⟨se.toArray⟩, .slice aF fs.length cF, .slice aL ws.length cL, .int .i64 xx] 61)) (by go_simp) ?_
          have HA2 := Lib.hid (HAD2.out wr.drew HS0)
          have HS1 : Below wr.heap.size wr (wr.drew.alloc (.cells #[.string ⟨key.toArray⟩, .bool gone, .int .i64 ke, .string ⟨se.toArray⟩, .slice aF fs.length cF, .slice aL ws.length cL, .int .i64 xx] 61)) := HS0.alloc HS0.size _
          refine hK _ _ (fun _ => HS1) ?_
          clear hK K
          try simp only [Act.put, List.setIfInBounds_toArray, List.set_cons_zero, List.set_cons_succ]
          obtain ⟨v5, hv5⟩ : ∃ v5, wr.drew.alloc (.cells #[.string ⟨key.toArray⟩, .bool gone, .int .i64 ke, .string ⟨se.toArray⟩, .slice aF fs.length cF, .slice aL ws.length cL, .int .i64 xx] 61) = v5 := ⟨_, rfl⟩
          rw [hv5] at HA2 HS1 ⊢
          clear hv5
          refine wpAnyL_one (j := 6) (by kernel_rfl) rfl (by rfl) (fun K hK => ?_)
          go_simp
          refine HA2.out.mono ?_
          rintro e w6 ⟨g', rfl, hgo', hgf', hb6, hgn'⟩
          have HS2 := HS1.trans (hb6.mono HS1.size)
          have HKJ := Lib.hid (HKE.out w6 g' HS2 hgo' hgf' (hgn'.mono (by have := HS1.size; omega)))
          have HX6 := Lib.hid (HXG2.out.next HS2)
          clear hgo' hgf' hb6 hgn'
          refine hK _ _ (fun _ => HS2) ?_
          clear hK K
          try simp only [Act.put, List.setIfInBounds_toArray, List.set_cons_zero, List.set_cons_succ]
          obtain ⟨rn6, re6, off6, a6, es6, c6', pn6, pe6, unt6⟩ := g'
          obtain ⟨⟨y0, y1, y2, y3, y4, y5, y6⟩, z0, z1, z2, z3, z4, z5, z6⟩ := HX6.out.at
          simp only at y0 y1 y2 y3 y4 y5 y6
          unfold Fe.v
          simp only
          have HKJ' := HKJ.out
          unfold stFe at HKJ'
          simp only at HKJ'
          have HKJ2 := Lib.hid HKJ'
          clear HKJ'
          refine wpAnyL_one (j := 7) (by kernel_rfl) rfl (by rfl) (fun K hK => ?_)
          go_simp
          refine hK _ _ (fun h => (h rfl).elim) ?_
          clear hK K y0 y1 y2 y3 y4 y5 y6 z0 z1 z2 z3 z4 z5 z6
          try simp only [Act.put, List.setIfInBounds_toArray, List.set_cons_zero, List.set_cons_succ]
          refine wpAnyL_done (by kernel_rfl) ?_ _
          go_wp2_with fail
          go_roundw
          case rel => exact ⟨q + 1, by omega, by go_num, HKJ2⟩
          case measure => simp [intOf]; omega
        · obtain rfl : q = ls.length := by omega
          obtain ⟨g, hrow, hxf, hxg, hfo, hgo, hgf, hgn, hzo⟩ := HJ.out
          have k1' : ¬ (ls.length : Int) < (ls.length : Int) := by omega
          rw [List.take_length] at hgf
          have hgn := hgn hl0
          obtain ⟨ad, hbad⟩ : ∃ ad, b = some ad := by
            obtain ⟨lb, lo, e, -⟩ := HLS.out.get hl0
            exact ⟨_, e⟩
          subst hbad
          have HN := Lib.hid (efs_news (HLS.out.later hrow.2.1))
          have hzr2 := hrow.2.1.size
          have HROW2 := Lib.hid hrow
          have HE : Hid (∀ v1 W, W.ownsRow w1.heap.size 61 7 v1 (X.length + ls.length) ((X.map Le.cs).flatten ++ (ls.map Le.cs).flatten) → wr.grownBy W (Value.slice ua X.length uc).ownBlock → KpI w1 B ls (n + 1) v1 W) := Lib.hid fun v1 W h1 h2 => by
            have hk : Keeps (fun k => some k ≠ (Value.slice ua X.length uc).ownBlock) wr W := Keeps.of_grown h2 fun r e h => h e.symm
            refine ⟨_, g, ?_, hk.heap hxf (hxf.owned hrow), hk.heap hxg (hxg.owned hrow), hfo.grow HFN.out HRO.out hk, hgo.grow hgn HRO.out hk, HFF.out, hgf⟩
            rw [List.replicate_succ', List.flatten_append, List.flatten_cons, List.flatten_nil, List.append_nil, HXX.out]
            exact RowE.many hrow h1 h2 HLS.out.2
          clear hrow hxf hxg hfo hgo hgf hgn hzo
          go_wp2_with (at_builtin; refine wpList_append_own _ rfl (.tmp 46) (.tmp 47) 24 rfl w1.heap.size 61 iE _ 7 104 Try.underlying24 hiE hiE0 hiE1 hiE2 rfl (by decide) _ _ _ rfl HROW2.out.1 ad ls.length cb (ls.map Le.cs).flatten rfl (flatE_len ls) HN.out (flatE_one ls) (by unfold maxLen; omega) (by omega) (by omega) ?_; intro v1 w5 hown hgrow hnn; have HK5 := Lib.hid (HE.out v1 w5 hown hgrow); clear hown hgrow hnn)
          go_roundw
          case rel => exact ⟨n + 1, by go_num, by omega, HK5⟩
          case measure => simp [intOf]; omega
    · obtain ⟨f, g, hrow, hxf, hxg, hfo, hgo, hff, hgf⟩ := HI.out
      have hn1 : 1 ≤ n := by omega
      have hn6 : n ≤ 6 := by omega
      have hwr := HB1.out.trans (hrow.2.1.mono HB1.out.size)
      obtain ⟨X, hX⟩ : ∃ X, (List.replicate n ls).flatten = X := ⟨_, rfl⟩
      have hXL : X.length = n * ls.length := by rw [← hX, flat_rep]
      rw [hX] at hrow
      obtain ⟨ua, uc, rfl, hue, hun⟩ := hrow.efs
      have hX1 : 1 ≤ X.length := by rw [hXL]; exact Nat.mul_pos hn1 hl0
      have hX2 : X.length ≤ 240 := by rw [hXL]; exact Nat.mul_le_mul hn6 hln
      obtain ⟨xb, xo, rfl, hxb, -⟩ := hue.get (by omega)
      have hoff : f.off = (X.length : Int) := by
        have h1 : f.off = (Fd.rep (ls.map Le.e) n).off := congrArg Fd.F.off hff
        rw [h1, Fd.rep_off, ← flat_repE, List.length_map, hX]
      have hfl := fe_len (f := f) (by rw [hff]; exact Fd.rep_back _ _)
      have hgl := fe_len (f := g) (by rw [hgf]; exact Fd.rep_back _ _)
      obtain ⟨m, hm⟩ : ∃ m, X.length - 64 = m := ⟨_, rfl⟩
      have hbk : f.es.map Le.e = (X.drop m).map Le.e := by
        have h1 : f.es.map Le.e = (Fd.rep (ls.map Le.e) n).back := congrArg Fd.F.back hff
        rw [h1, Fd.rep_all, ← flat_repE, hX]
        unfold Fd.last
        rw [List.length_map, hm, List.map_drop]
      have hdl : (X.drop m).length = X.length - m := List.length_drop
      have HSE := Lib.hid (fun W (h : Below wr.heap.size wr W) => sameEffects_any f.a f.c f.es (some ⟨xb, xo + m * 7, none⟩) (uc - m) (X.drop m) W (hfo.later h).1 ((hue.later h).drop m (by omega)) (by omega) (by omega))
      rw [hbk, Fd.same_self, hdl] at HSE
      have HSF := Lib.hid (fun W (h : Below wr.heap.size wr W) => feSame_any f g W (hfo.later h) (hgo.later h) (by omega) (by omega))
      rw [hff, hgf, Fd.same_refl] at HSF
      have HXF := Lib.hid hxf
      have HXG := Lib.hid hxg
      have HWR := Lib.hid hwr
      have hul := hue.len
      have xm : max (0 : Int) ((X.length : Int) - 64) = (m : Int) := by omega
      have xw : IntKind.i64.wrap ((X.length : Int) - 64) = (X.length : Int) - 64 := IntWalk.i64_in _ (by omega)
      have xm1 : (m : Int) ≤ (X.length : Int) := by omega
      have xm0 : (0 : Int) ≤ (m : Int) := by omega
      have xm2 : (X.length : Int) ≤ (uc : Int) := by omega
      have xm3 : ¬ uc = m := by omega
      have xm4 : ¬ (uc : Int) = (m : Int) := by omega
      clear hrow hxf hxg hfo hgo hff hgf hX hXL hue hun hfl hgl hbk hdl hm HI hwr
      obtain ⟨rn, re, off, a, es, c, pn, pe, unt⟩ := f
      obtain ⟨rn2, re2, off2, a2, es2, c2, pn2, pe2, unt2⟩ := g
      simp only at hoff HSE
      subst hoff
      unfold Fe.v at HSF
      simp only at HSF
      obtain ⟨⟨c0, c1, c2', c3, c4, c5, c6⟩, -⟩ := HXF.out.at
      obtain ⟨⟨g0, g1, g2, g3, g4, g5, g6⟩, -⟩ := HXG.out.at
      simp only at c0 c1 c2' c3 c4 c5 c6 g0 g1 g2 g3 g4 g5 g6
      have hBl := HXF.out.lt
      have hGl := HXG.out.lt
      have HS0 : Below wr.heap.size wr wr.drew := (Below.refl _ wr).drew
      go_wp2_with fail
      refine wp_region_L (S := fun W => Below wr.heap.size wr W) (f := 25) (by kernel_rfl) ?_
      refine wpAnyL_take (i := 0) (some 49) (v := .pointer (some ⟨B, 2, none⟩)) rfl rfl (by kernel_rfl) (by kernel_rfl) (by kernel_rfl) (by kernel_rfl) (fun _ _ _ h => h) (by rfl) (fun W hS => ?_) HS0 ?_
      · go_simp
      try simp only [Act.put, List.setIfInBounds_toArray, List.set_cons_zero, List.set_cons_succ]
      refine wpAnyL_take (i := 1) (some 50) (v := .int .i64 (X.length : Int)) rfl rfl (by kernel_rfl) (by kernel_rfl) (by kernel_rfl) (by kernel_rfl) (fun _ _ _ h => h) (by rfl) (fun W hS => ?_) HS0 ?_
      · have m2 := (hS.cell (p := ⟨B, 2, none⟩) hBl).trans c2'
        go_simp
      try simp only [Act.put, List.setIfInBounds_toArray, List.set_cons_zero, List.set_cons_succ]
      refine wpAnyL_take (i := 2) (some 51) (v := .slice (some ⟨xb, xo, none⟩) X.length uc) rfl rfl (by kernel_rfl) (by kernel_rfl) (by kernel_rfl) (by kernel_rfl) (fun _ _ _ h => h) (by rfl) (fun W hS => ?_) HS0 ?_
      · go_simp
      try simp only [Act.put, List.setIfInBounds_toArray, List.set_cons_zero, List.set_cons_succ]
      refine wpAnyL_take (i := 3) (some 52) (v := .int .i64 (X.length : Int)) rfl rfl (by kernel_rfl) (by kernel_rfl) (by kernel_rfl) (by kernel_rfl) (fun _ _ _ h => h) (by rfl) (fun W hS => ?_) HS0 ?_
      · go_simp
      try simp only [Act.put, List.setIfInBounds_toArray, List.set_cons_zero, List.set_cons_succ]
      refine wpAnyL_take (i := 4) (some 53) (v := .bool true) rfl rfl (by kernel_rfl) (by kernel_rfl) (by kernel_rfl) (by kernel_rfl) (fun _ _ _ h => h) (by rfl) (fun W hS => ?_) HS0 ?_
      · go_simp
      try simp only [Act.put, List.setIfInBounds_toArray, List.set_cons_zero, List.set_cons_succ]
      refine wpAnyL_take (i := 5) (some 54) (v := .bool true) rfl rfl (by kernel_rfl) (by kernel_rfl) (by kernel_rfl) (by kernel_rfl) (fun _ _ _ h => h) (by rfl) (fun W hS => ?_) HS0 ?_
      · go_simp
      try simp only [Act.put, List.setIfInBounds_toArray, List.set_cons_zero, List.set_cons_succ]
      refine wpAnyL_take (i := 6) (some 55) (v := .pointer (some ⟨B, 3, none⟩)) rfl rfl (by kernel_rfl) (by kernel_rfl) (by kernel_rfl) (by kernel_rfl) (fun _ _ _ h => h) (by rfl) (fun W hS => ?_) HS0 ?_
      · go_simp
      try simp only [Act.put, List.setIfInBounds_toArray, List.set_cons_zero, List.set_cons_succ]
      refine wpAnyL_take (i := 7) (some 56) (v := .slice a es.length c) rfl rfl (by kernel_rfl) (by kernel_rfl) (by kernel_rfl) (by kernel_rfl) (fun _ _ _ h => h) (by rfl) (fun W hS => ?_) HS0 ?_
      · have m3 := (hS.cell (p := ⟨B, 3, none⟩) hBl).trans c3
        go_simp
      try simp only [Act.put, List.setIfInBounds_toArray, List.set_cons_zero, List.set_cons_succ]
      refine wpAnyL_take (i := 8) (some 57) (v := .slice (some ⟨xb, xo, none⟩) X.length uc) rfl rfl (by kernel_rfl) (by kernel_rfl) (by kernel_rfl) (by kernel_rfl) (fun _ _ _ h => h) (by rfl) (fun W hS => ?_) HS0 ?_
      · go_simp
      try simp only [Act.put, List.setIfInBounds_toArray, List.set_cons_zero, List.set_cons_succ]
      refine wpAnyL_take (i := 9) (some 58) (v := .slice (some ⟨xb, xo, none⟩) X.length uc) rfl rfl (by kernel_rfl) (by kernel_rfl) (by kernel_rfl) (by kernel_rfl) (fun _ _ _ h => h) (by rfl) (fun W hS => ?_) HS0 ?_
      · go_simp
      try simp only [Act.put, List.setIfInBounds_toArray, List.set_cons_zero, List.set_cons_succ]
      refine wpAnyL_take (i := 10) (some 59) (v := .int .i64 (X.length : Int)) rfl rfl (by kernel_rfl) (by kernel_rfl) (by kernel_rfl) (by kernel_rfl) (fun _ _ _ h => h) (by rfl) (fun W hS => ?_) HS0 ?_
      · go_simp
      try simp only [Act.put, List.setIfInBounds_toArray, List.set_cons_zero, List.set_cons_succ]
      refine wpAnyL_take (i := 11) (some 60) (v := .int .i64 ((X.length : Int) - 64)) rfl rfl (by kernel_rfl) (by kernel_rfl) (by kernel_rfl) (by kernel_rfl) (fun _ _ _ h => h) (by rfl) (fun W hS => ?_) HS0 ?_
      · go_simp
      try simp only [Act.put, List.setIfInBounds_toArray, List.set_cons_zero, List.set_cons_succ]
      refine wpAnyL_take (i := 12) (some 61) (v := .int .i64 (m : Int)) rfl rfl (by kernel_rfl) (by kernel_rfl) (by kernel_rfl) (by kernel_rfl) (fun _ _ _ h => h) (by rfl) (fun W hS => ?_) HS0 ?_
      · go_simp
      try simp only [Act.put, List.setIfInBounds_toArray, List.set_cons_zero, List.set_cons_succ]
      refine wpAnyL_take (i := 13) (some 62) (v := .slice (some ⟨xb, xo + m * 7, none⟩) (X.length - m) (uc - m)) rfl rfl (by kernel_rfl) (by kernel_rfl) (by kernel_rfl) (by kernel_rfl) (fun _ _ _ h => h) (by rfl) (fun W hS => ?_) HS0 ?_
      · go_simp
      try simp only [Act.put, List.setIfInBounds_toArray, List.set_cons_zero, List.set_cons_succ]
      refine wpAnyL_one (j := 14) (by kernel_rfl) rfl (by rfl) (fun K hK => ?_)
      go_simp
      refine (HSE.out _ HS0).mono ?_
      rintro e v14 ⟨rfl, hb⟩
      have HS1 := HS0.trans (hb.mono HS0.size)
      clear hb
      refine hK _ _ (fun _ => HS1) ?_
      clear hK K
      try simp only [Act.put, List.setIfInBounds_toArray, List.set_cons_zero, List.set_cons_succ]
      refine wpAnyL_take (i := 15) (some 64) (v := .bool true) rfl rfl (by kernel_rfl) (by kernel_rfl) (by kernel_rfl) (by kernel_rfl) (fun _ _ _ h => h) (by rfl) (fun W hS => ?_) HS1 ?_
      · go_simp
      try simp only [Act.put, List.setIfInBounds_toArray, List.set_cons_zero, List.set_cons_succ]
      refine wpAnyL_take (i := 16) (some 65) (v := .bool true) rfl rfl (by kernel_rfl) (by kernel_rfl) (by kernel_rfl) (by kernel_rfl) (fun _ _ _ h => h) (by rfl) (fun W hS => ?_) HS1 ?_
      · go_simp
      try simp only [Act.put, List.setIfInBounds_toArray, List.set_cons_zero, List.set_cons_succ]
      refine wpAnyL_take (i := 17) (some 66) (v := .agg #[.int .i64 rn, .int .i64 re, .int .i64 (X.length : Int), .slice a es.length c, .int .i64 pn, .int .i64 pe, .int .i64 unt]) rfl rfl (by kernel_rfl) (by kernel_rfl) (by kernel_rfl) (by kernel_rfl) (fun _ _ _ h => h) (by rfl) (fun W hS => ?_) HS1 ?_
      · have m0 := (hS.cell (p := ⟨B, 0, none⟩) hBl).trans c0
        have m1 := (hS.cell (p := ⟨B, 1, none⟩) hBl).trans c1
        have m2 := (hS.cell (p := ⟨B, 2, none⟩) hBl).trans c2'
        have m3 := (hS.cell (p := ⟨B, 3, none⟩) hBl).trans c3
        have m4 := (hS.cell (p := ⟨B, 4, none⟩) hBl).trans c4
        have m5 := (hS.cell (p := ⟨B, 5, none⟩) hBl).trans c5
        have m6 := (hS.cell (p := ⟨B, 6, none⟩) hBl).trans c6
        go_simp
      try simp only [Act.put, List.setIfInBounds_toArray, List.set_cons_zero, List.set_cons_succ]
      refine wpAnyL_take (i := 18) (some 67) (v := .agg #[.int .i64 rn2, .int .i64 re2, .int .i64 off2, .slice a2 es2.length c2, .int .i64 pn2, .int .i64 pe2, .int .i64 unt2]) rfl rfl (by kernel_rfl) (by kernel_rfl) (by kernel_rfl) (by kernel_rfl) (fun _ _ _ h => h) (by rfl) (fun W hS => ?_) HS1 ?_
      · have m0 := (hS.cell (p := ⟨B + 1, 0, none⟩) hGl).trans g0
        have m1 := (hS.cell (p := ⟨B + 1, 1, none⟩) hGl).trans g1
        have m2 := (hS.cell (p := ⟨B + 1, 2, none⟩) hGl).trans g2
        have m3 := (hS.cell (p := ⟨B + 1, 3, none⟩) hGl).trans g3
        have m4 := (hS.cell (p := ⟨B + 1, 4, none⟩) hGl).trans g4
        have m5 := (hS.cell (p := ⟨B + 1, 5, none⟩) hGl).trans g5
        have m6 := (hS.cell (p := ⟨B + 1, 6, none⟩) hGl).trans g6
        go_simp
      try simp only [Act.put, List.setIfInBounds_toArray, List.set_cons_zero, List.set_cons_succ]
      refine wpAnyL_one (j := 19) (by kernel_rfl) rfl (by rfl) (fun K hK => ?_)
      go_simp
      refine (HSF.out _ HS1).mono ?_
      rintro e v19 ⟨rfl, hb⟩
      have HS2 := HS1.trans (hb.mono HS1.size)
      clear hb
      refine hK _ _ (fun _ => HS2) ?_
      clear hK K
      try simp only [Act.put, List.setIfInBounds_toArray, List.set_cons_zero, List.set_cons_succ]
      refine wpAnyL_take (i := 20) (some 69) (v := .bool true) rfl rfl (by kernel_rfl) (by kernel_rfl) (by kernel_rfl) (by kernel_rfl) (fun _ _ _ h => h) (by rfl) (fun W hS => ?_) HS2 ?_
      · go_simp
      try simp only [Act.put, List.setIfInBounds_toArray, List.set_cons_zero, List.set_cons_succ]
      refine wpAnyL_take (i := 21) (some 70) (v := .bool true) rfl rfl (by kernel_rfl) (by kernel_rfl) (by kernel_rfl) (by kernel_rfl) (fun _ _ _ h => h) (by rfl) (fun W hS => ?_) HS2 ?_
      · go_simp
      try simp only [Act.put, List.setIfInBounds_toArray, List.set_cons_zero, List.set_cons_succ]
      refine wpAnyL_one (j := 22) (by kernel_rfl) rfl (by rfl) (fun K hK => ?_)
      go_simp
      refine (HAW.out _).mono ?_
      rintro e v22 ⟨rfl, hb⟩
      have HS3 := HS2.trans (hb.mono HS2.size)
      clear hb
      refine hK _ _ (fun _ => HS3) ?_
      clear hK K
      try simp only [Act.put, List.setIfInBounds_toArray, List.set_cons_zero, List.set_cons_succ]
      refine wpAnyL_take (i := 23) (some 72) (v := .bool true) rfl rfl (by kernel_rfl) (by kernel_rfl) (by kernel_rfl) (by kernel_rfl) (fun _ _ _ h => h) (by rfl) (fun W hS => ?_) HS3 ?_
      · go_simp
      try simp only [Act.put, List.setIfInBounds_toArray, List.set_cons_zero, List.set_cons_succ]
      refine wpAnyL_take (i := 24) (some 4) (v := .bool true) rfl rfl (by kernel_rfl) (by kernel_rfl) (by kernel_rfl) (by kernel_rfl) (fun _ _ _ h => h) (by rfl) (fun W hS => ?_) HS3 ?_
      · go_simp
      try simp only [Act.put, List.setIfInBounds_toArray, List.set_cons_zero, List.set_cons_succ]
      refine wpAnyL_done (by kernel_rfl) ?_ _
      have HF := Lib.hid (HWR.out.trans (HS3.mono HWR.out.size))
      go_wp2_with fail
      go_ret
      exact ⟨rfl, HF.out⟩
end Go.Proofs.Ytihleddhjmejoaa
