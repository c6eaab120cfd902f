/- The contract of item.Copy. -/
import Derived.Test.YtihleddhjmejoaaMD17
import Derived.Test.YtihleddhjmejoaaMD07
import Derived.Deep.RegionHeld3
import Derived.Deep.AppendLies
import Derived.Deep.Cut
import Derived.Deep.DeepCutAuto
import Derived.Test.YtihleddhjmejoaaMD06
import Derived.BigQuiet
namespace Go.Proofs.Ytihleddhjmejoaa
set_option linter.unusedVariables false
open Go.RowKit Go.Shelf

set_option linter.unusedSimpArgs false in
set_option maxRecDepth 100000 in
set_option maxHeartbeats 8000000 in
theorem copy_any (k x : Int) (s : List UInt8) (aF : Option Addr) (cF : Nat) (fs : List (List UInt8 × List UInt8)) (aL : Option Addr) (cL : Nat) (ws : List (List UInt8)) (w : World) (hF : Fds w aF cF fs) (hL : Wds w aL cL ws)
    (hlF : fs.length ≤ 1000000) (hlL : ws.length ≤ 1000000) (hs : s.length ≤ 1000000) (hfs : ∀ p ∈ fs, p.1.length ≤ 1000000 ∧ p.2.length ≤ 1000000) (hws : ∀ t ∈ ws, t.length ≤ 1000000) :
    Calls Try.prog 70 #[itv k s aF fs.length cF aL ws.length cL x] w (CopyOut k x s fs ws w) := by
  have hc := fun W => clone_any s W (by omega)
  have HC := Lib.hid hc
  have HF := Lib.hid hF
  have HL := Lib.hid hL
  have HFS := Lib.hid hfs
  have HWS := Lib.hid hws
  obtain ⟨W0, hW0⟩ : ∃ W0, (w.alloc (itc k s aF fs.length cF aL ws.length cL x)).alloc (itc 0 [] none 0 0 none 0 0 0) = W0 := ⟨_, rfl⟩
  have hbx : ItBox W0 w.heap.size k s aF fs.length cF aL ws.length cL x := by
    rw [← hW0]
    exact ((Keeps.refl (fun _ => True) _).alloc _).heap (ItBox.new w k s aF fs.length cF aL ws.length cL x) trivial
  have hres : ItBox W0 (w.heap.size + 1) 0 [] none 0 0 none 0 0 0 := by
    rw [← hW0]
    have := ItBox.new (w.alloc (itc k s aF fs.length cF aL ws.length cL x)) 0 [] none 0 0 none 0 0 0
    rwa [World.size_alloc] at this
  have hB0 : Below w.heap.size w W0 := by rw [← hW0]; exact ((Below.refl _ w).alloc (Nat.le_refl _) _).alloc (by simp) _
  have hz0 : w.heap.size + 2 ≤ W0.heap.size := by rw [← hW0]; simp
  obtain ⟨c0, c1, -, -, c4⟩ := hbx.at
  have HW0 := Lib.hid hW0
  have HB0 := Lib.hid hB0
  have HBX := Lib.hid hbx
  have HRS := Lib.hid hres
  clear hc hF hL hfs hws hW0 hbx hres hB0
  obtain ⟨iF, hiF, hiF0, hiF1, hiF2⟩ := info_parts infoF
  obtain ⟨iS, hiS, hiS0, hiS1, hiS2⟩ := info_parts info9
  unfold itv
  go_enter Try.func70, Try.ntmps70
  go_upto_region 1 with (fail)
  rw [show (w.alloc (.cells #[.int .i64 k, .string ⟨s.toArray⟩, .slice aF fs.length cF, .slice aL ws.length cL, .int .i64 x] 59)).alloc (.cells #[.int .i64 0, .string ⟨#[]⟩, .slice none 0 0, .slice none 0 0, .int .i64 0] 59) = W0 from HW0.out]
  clear HW0
  go_cut [3] (fun p W1 => CpAt W0 k s x p W1)
  case first =>
    go_region_held3 (fun w' => w'.cell? ⟨w.heap.size, 0, none⟩ = some (.int .i64 k) ∧ w'.cell? ⟨w.heap.size, 1, none⟩ = some (.string ⟨s.toArray⟩) ∧ w'.cell? ⟨w.heap.size, 4, none⟩ = some (.int .i64 x))
      (first
        | (with_reducible exact ⟨q0, q1, q4⟩)
        | (refine ⟨?_, ?_, ?_⟩ <;> (rw [far5 (by omega)]; assumption))
        | go_keep)
      (((with_reducible refine (HC.out _).mono ?_)
        rintro e w1 ⟨rfl, hb⟩
        first
          | (with_reducible have hB := cp_old (W := W0) hb
             have HB1 := Lib.hid hB
             have q0 : w1.cell? ⟨w.heap.size, 0, none⟩ = some (.int .i64 k) := (hB.cell (p := ⟨w.heap.size, 0, none⟩) (by simp; omega)).trans c0
             have q1 : w1.cell? ⟨w.heap.size, 1, none⟩ = some (.string ⟨s.toArray⟩) := (hB.cell (p := ⟨w.heap.size, 1, none⟩) (by simp; omega)).trans c1
             have q4 : w1.cell? ⟨w.heap.size, 4, none⟩ = some (.int .i64 x) := (hB.cell (p := ⟨w.heap.size, 4, none⟩) (by simp; omega)).trans c4
             clear hb hB)
          | (with_reducible have hB := cp_new (W := W0) hb
             have HB1 := Lib.hid hB.1
             have HX1 := Lib.hid hB.2
             have q0 : w1.cell? ⟨w.heap.size, 0, none⟩ = some (.int .i64 k) := (hB.1.cell (p := ⟨w.heap.size, 0, none⟩) (by simp; omega)).trans c0
             have q1 : w1.cell? ⟨w.heap.size, 1, none⟩ = some (.string ⟨s.toArray⟩) := (hB.1.cell (p := ⟨w.heap.size, 1, none⟩) (by simp; omega)).trans c1
             have q4 : w1.cell? ⟨w.heap.size, 4, none⟩ = some (.int .i64 x) := (hB.1.cell (p := ⟨w.heap.size, 4, none⟩) (by simp; omega)).trans c4
             obtain ⟨z0, z1, z2, z3, z4⟩ := hB.2.at
             obtain ⟨f0, f1, f2, f3, f4⟩ := hB.2.free
             clear hb hB)))
    · go_wp2_with fail
      go_meet
      case rel => exact cpAt_late HB1.out
    · go_wp2_with fail
      go_meet
      case rel => exact cpAt_early HB1.out HX1.out
  case rest =>
    obtain ⟨Bc, rfl, hBc, hcb, hbw⟩ := hcut
    have hz1 : w.heap.size < W0.heap.size := by omega
    have hbx := hbw.block w.heap.size (by omega)
    have hbx1 : ItBox wc w.heap.size k s aF fs.length cF aL ws.length cL x := hbx.trans HBX.out
    obtain ⟨d0, d1, d2, d3, d4⟩ := hbx1.at
    have HCB := Lib.hid hcb
    have HBW := Lib.hid hbw
    have HBX1 := Lib.hid hbx1
    have hlt : Bc < wc.heap.size := hcb.lt
    have HBwc := Lib.hid (HB0.out.trans (hbw.mono (by omega)))
    have hzc := hbw.size
    have hnF : (fs.length : Int) ≤ 1000000 := by omega
    have hnL : (ws.length : Int) ≤ 1000000 := by omega
    clear c0 c1 c4 hbx hbx1 hcb hbw
    go_wp2
    go_loopw [19] (fun i wr => ∃ q : Nat, q ≤ fs.length ∧ i = .int .i64 q ∧ Hid (CpF wc Bc k s x fs q wr)) (fun i _ => fs.length - (intOf i).toNat)
    case atStart => exact ⟨0, Nat.zero_le _, rfl, Lib.hid ⟨none, 0, HCB.out, World.ownsRow_nil _ _ _ _, Keeps.refl _ _⟩⟩
    case round =>
      obtain ⟨q, hq, rfl, HQ⟩ := hrel
      by_cases hlt2 : q < fs.length
      · obtain ⟨bF, oF, rfl, hbF, hcF⟩ := HF.out.get (by omega)
        obtain ⟨a, c, hqx, hqo, hqk⟩ := HQ.out
        have hne : bF ≠ Bc := by omega
        have y0 := (hqk.cell (p := ⟨bF, oF + q * 2, none⟩) (by simp; omega) hne).trans ((HBwc.out.cell (p := ⟨bF, oF + q * 2, none⟩) hbF).trans (hcF q hlt2).1)
        have y1 := (hqk.cell (p := ⟨bF, oF + q * 2 + 1, none⟩) (by simp; omega) hne).trans ((HBwc.out.cell (p := ⟨bF, oF + q * 2 + 1, none⟩) hbF).trans (hcF q hlt2).2)
        have hlen := HFS.out (fs.getD q ([], [])) (by rw [getD_eq hlt2]; exact List.getElem_mem hlt2)
        obtain ⟨e0, e1, e2, e3, e4⟩ := hqx.at
        obtain ⟨n, hn⟩ : ∃ n, (fs.getD q ([], [])).1 = n := ⟨_, rfl⟩
        obtain ⟨v, hv⟩ : ∃ v, (fs.getD q ([], [])).2 = v := ⟨_, rfl⟩
        rw [hn] at y0 hlen
        rw [hv] at y1 hlen
        have HN := Lib.hid hn
        have HV := Lib.hid hv
        have HX := Lib.hid hqx
        have HO := Lib.hid hqo
        have HK := Lib.hid hqk
        have k0 : (0 : Int) ≤ (q : Int) := by omega
        have k1 : (q : Int) < (fs.length : Int) := by omega
        have kT : ((q : Int)).toNat = q := by omega
        have HC1 := Lib.hid (fun W => clone_any n W (by omega))
        have HC2 := Lib.hid (fun W => clone_any v W (by omega))
        have hzr : wc.heap.size ≤ wr.heap.size := hqk.size
        clear hn hv hqx hqo hqk hcF HQ
        go_upto_region 5 with (fail)
        have HS0 := cpS0 (v0 := .slice a q c) (n := n) (v := v) (wr := wr) e2
        refine wp_region_L (S := (fun W => W.cell? ⟨Bc, 2, none⟩ = some (.slice a q c) ∧ W.cell? ⟨wr.heap.size, 0, none⟩ = some (.string ⟨n.toArray⟩) ∧ W.cell? ⟨wr.heap.size, 1, none⟩ = some (.string ⟨v.toArray⟩))) (f := 12) (by kernel_rfl) ?_
        refine wpAnyL_take (i := 0) (some 23) (v := .pointer (some ⟨Bc, 2, none⟩)) rfl rfl (by kernel_rfl) (by kernel_rfl) (by kernel_rfl) (by kernel_rfl) (fun _ _ _ h => h) (by rfl) (fun W hS => ?_) HS0 ?_
        · rcases hS with ⟨m0, m1, m2⟩
          go_simp
        try simp only [Act.put, List.setIfInBounds_toArray, List.set_cons_zero, List.set_cons_succ]
        refine wpAnyL_take (i := 1) (some 24) (v := .slice a q c) rfl rfl (by kernel_rfl) (by kernel_rfl) (by kernel_rfl) (by kernel_rfl) (fun _ _ _ h => h) (by rfl) (fun W hS => ?_) HS0 ?_
        · rcases hS with ⟨m0, m1, m2⟩
          go_simp
        try simp only [Act.put, List.setIfInBounds_toArray, List.set_cons_zero, List.set_cons_succ]
        refine wpAnyL_take (i := 2) (some 25) (v := .pointer (some ⟨wr.heap.size, 0, none⟩)) rfl rfl (by kernel_rfl) (by kernel_rfl) (by kernel_rfl) (by kernel_rfl) (fun _ _ _ h => h) (by rfl) (fun W hS => ?_) HS0 ?_
        · rcases hS with ⟨m0, m1, m2⟩
          go_simp
        try simp only [Act.put, List.setIfInBounds_toArray, List.set_cons_zero, List.set_cons_succ]
        refine wpAnyL_take (i := 3) (some 26) (v := .string ⟨n.toArray⟩) rfl rfl (by kernel_rfl) (by kernel_rfl) (by kernel_rfl) (by kernel_rfl) (fun _ _ _ h => h) (by rfl) (fun W hS => ?_) HS0 ?_
        · rcases hS with ⟨m0, m1, m2⟩
          go_simp
        try simp only [Act.put, List.setIfInBounds_toArray, List.set_cons_zero, List.set_cons_succ]
        refine wpAnyL_take (i := 5) (some 28) (v := .pointer (some ⟨wr.heap.size, 1, none⟩)) rfl rfl (by kernel_rfl) (by kernel_rfl) (by kernel_rfl) (by kernel_rfl) (fun _ _ _ h => h) (by rfl) (fun W hS => ?_) HS0 ?_
        · rcases hS with ⟨m0, m1, m2⟩
          go_simp
        try simp only [Act.put, List.setIfInBounds_toArray, List.set_cons_zero, List.set_cons_succ]
        refine wpAnyL_take (i := 6) (some 29) (v := .string ⟨v.toArray⟩) rfl rfl (by kernel_rfl) (by kernel_rfl) (by kernel_rfl) (by kernel_rfl) (fun _ _ _ h => h) (by rfl) (fun W hS => ?_) HS0 ?_
        · rcases hS with ⟨m0, m1, m2⟩
          go_simp
        try simp only [Act.put, List.setIfInBounds_toArray, List.set_cons_zero, List.set_cons_succ]
        refine wpAnyL_one (j := 4) (by kernel_rfl) rfl (by rfl) (fun K hK => ?_)
        go_simp
        with_reducible refine (HC1.out _).mono ?_
        rintro e w1 ⟨rfl, hb⟩
        have HS1 := cpSb HS0 hb
        have HB1 := Lib.hid hb
        clear hb
        refine hK _ _ (fun _ => HS1) ?_
        clear hK K
        try simp only [Act.put, List.setIfInBounds_toArray, List.set_cons_zero, List.set_cons_succ]
        refine wpAnyL_one (j := 7) (by kernel_rfl) rfl (by rfl) (fun K hK => ?_)
        go_simp
        with_reducible refine (HC2.out _).mono ?_
        rintro e w2 ⟨rfl, hb⟩
        have HS2 := cpSb HS1 hb
        have HB2 := Lib.hid hb
        clear hb
        refine hK _ _ (fun _ => HS2) ?_
        clear hK K
        try simp only [Act.put, List.setIfInBounds_toArray, List.set_cons_zero, List.set_cons_succ]
        refine wpAnyL_take (i := 8) (some 31) (v := .agg #[.string ⟨n.toArray⟩, .string ⟨v.toArray⟩]) rfl rfl (by kernel_rfl) (by kernel_rfl) (by kernel_rfl) (by kernel_rfl) (fun _ _ _ h => h) (by rfl) (fun W hS => ?_) HS2 ?_
        · rcases hS with ⟨m0, m1, m2⟩
          go_simp
        try simp only [Act.put, List.setIfInBounds_toArray, List.set_cons_zero, List.set_cons_succ]
        refine wpAnyL_one (j := 9) (by kernel_rfl) rfl (by rfl) (fun K hK => ?_)
        refine oper_wp_val (v := .slice (some ⟨w2.heap.size, 0, none⟩) 1 1) (w' := w2.alloc (.cells #[.string ⟨n.toArray⟩, .string ⟨v.toArray⟩] 87)) (by go_simp) ?_
        have HO2 := Lib.hid (owns_kept (S := fun _ => True) HO.out (((Keeps.refl (fun _ => True) wr).alloc (.cells #[.string ⟨n.toArray⟩, .string ⟨v.toArray⟩] 87)).drew.trans ((Keeps.of_below HB1.out fun _ h _ => h).trans (Keeps.of_below HB2.out fun _ h _ => h))) fun _ _ => trivial)
        have hz2r : wr.heap.size < w2.heap.size := by have h1 := HB1.out.size; have h2 := HB2.out.size; simp at h1; omega
        have HS3 := cpSa (o := .cells #[.string ⟨n.toArray⟩, .string ⟨v.toArray⟩] 87) HS2
        refine hK _ _ (fun _ => HS3) ?_
        clear hK K
        try simp only [Act.put, List.setIfInBounds_toArray, List.set_cons_zero, List.set_cons_succ]
        refine wpAnyL_one (j := 10) (by kernel_rfl) rfl (by rfl) (fun K hK => ?_)
        refine wp_append_lies _ (.tmp 24) (.tmp 32) 56 rfl wc.heap.size 87 iF _ 2 32 Try.underlying56 hiF hiF0 hiF1 hiF2 rfl (by decide) (.slice a q c) q (fcells (fs.take q)) rfl (HO2.out.alloc _) ⟨w2.heap.size, 0, none⟩ 1 1 [.string ⟨n.toArray⟩, .string ⟨v.toArray⟩] rfl rfl (two_news w2 _ _ _) (two_one _ _) (by decide) (by unfold maxLen; omega) (by omega) (by simp; omega) _ rfl ?_
        intro g cap w3 hown hgrow hat hlt3
        have HS4 := cpSg (B := wr.heap.size) HS3 hgrow (by simp; omega) (by simp; omega) (fun e => by have := HO.out.lt _ e.symm; omega) (fun e => by have := HO.out.lt _ e.symm; omega)
        have HO3 := Lib.hid hown
        have HG3 := Lib.hid hgrow
        have HK3 := Lib.hid (cp_kept (W1 := wc) (Bc := Bc) HO.out HB1.out HB2.out hgrow)
        have hx3 : ItBox w3 Bc k s a q c none 0 0 x := HK3.out.heap HX.out (fun e => by have := (HO.out.lt _ e.symm).1; omega)
        have gf := hx3.free.2.2.1
        have HX3 := Lib.hid hx3
        clear hx3
        clear hown hgrow
        refine hK _ _ (fun _ => HS4) ?_
        clear hK K
        try simp only [Act.put, List.setIfInBounds_toArray, List.set_cons_zero, List.set_cons_succ]
        refine wpAnyL_take (i := 11) (some 34) (v := .pointer (some ⟨Bc, 2, none⟩)) rfl rfl (by kernel_rfl) (by kernel_rfl) (by kernel_rfl) (by kernel_rfl) (fun _ _ _ h => h) (by rfl) (fun W hS => ?_) HS4 ?_
        · rcases hS with ⟨m0, m1, m2⟩
          go_simp
        try simp only [Act.put, List.setIfInBounds_toArray, List.set_cons_zero, List.set_cons_succ]
        have g0 := HS4.1
        refine wpAnyL_one (j := 12) (by kernel_rfl) rfl (by rfl) (fun K hK => ?_)
        go_simp
        refine hK _ _ (fun h => (h rfl).elim) ?_
        clear hK K
        try simp only [Act.put, List.setIfInBounds_toArray, List.set_cons_zero, List.set_cons_succ]
        refine wpAnyL_done (by kernel_rfl) ?_ _
        go_wp2_with fail
        go_roundw
        case rel => exact ⟨q + 1, by omega, by go_num, Lib.hid (CpF.step hlt hlt2 HN.out HV.out HK.out HO.out HK3.out HX3.out HO3.out)⟩
        case measure => simp [intOf]; omega
      · obtain rfl : q = fs.length := by omega
        obtain ⟨a, c, hqx, hqo, hqk⟩ := HQ.out
        rw [List.take_length] at hqo
        have hbx2 : ItBox wr w.heap.size k s aF fs.length cF aL ws.length cL x := hqk.heap HBX1.out (by omega)
        obtain ⟨d20, d21, d22, d23, d24⟩ := hbx2.at
        have HX := Lib.hid hqx
        have HO := Lib.hid hqo
        have HK := Lib.hid hqk
        have HBX2 := Lib.hid hbx2
        have hBr := hqx.lt
        have hzr : wc.heap.size ≤ wr.heap.size := hqk.size
        clear hqx hqo hqk HQ hbx2
        generalize hnf : fs.length = nF at *
        have HNF := Lib.hid hnf
        clear hnf
        go_wp2
        obtain ⟨wb, rfl⟩ : ∃ wb : World, wb = wr := ⟨_, rfl⟩
        go_loopw [39] (fun i wr => ∃ q : Nat, q ≤ ws.length ∧ i = .int .i64 q ∧ Hid (CpL wb Bc k s a nF c x ws q wr)) (fun i _ => ws.length - (intOf i).toNat)
        case atStart => exact ⟨0, Nat.zero_le _, rfl, Lib.hid ⟨none, 0, HX.out, World.ownsRow_nil _ _ _ _, Keeps.refl _ _⟩⟩
        case round =>
          obtain ⟨q, hq, rfl, HQ⟩ := hrel
          by_cases hlt3' : q < ws.length
          · obtain ⟨bL, oL, rfl, hbL, hcL⟩ := HL.out.get (by omega)
            obtain ⟨a2, c2, hqx, hqo, hqk⟩ := HQ.out
            have hne : bL ≠ Bc := by omega
            have y0 := (hqk.cell (p := ⟨bL, oL + q, none⟩) (by simp; omega) hne).trans ((HK.out.cell (p := ⟨bL, oL + q, none⟩) (by simp; omega) hne).trans ((HBwc.out.cell (p := ⟨bL, oL + q, none⟩) hbL).trans (hcL q hlt3')))
            have hlen := HWS.out (ws.getD q []) (by rw [getD_eq hlt3']; exact List.getElem_mem hlt3')
            obtain ⟨e0, e1, e2, e3, e4⟩ := hqx.at
            obtain ⟨n, hn⟩ : ∃ n, ws.getD q [] = n := ⟨_, rfl⟩
            rw [hn] at y0 hlen
            have HN := Lib.hid hn
            have HX1 := Lib.hid hqx
            have HO1 := Lib.hid hqo
            have HK1 := Lib.hid hqk
            have k0 : (0 : Int) ≤ (q : Int) := by omega
            have k1 : (q : Int) < (ws.length : Int) := by omega
            have kT : ((q : Int)).toNat = q := by omega
            have HC1 := Lib.hid (fun W => clone_any n W (by omega))
            have hzr2 : wb.heap.size ≤ wr.heap.size := hqk.size
            clear hn hqx hqo hqk hcL HQ
            go_upto_region 10 with (fail)
            have HS0 : wr.drew.cell? ⟨Bc, 3, none⟩ = some (.slice a2 q c2) := (World.cell?_drew _ _).trans e3
            refine wp_region_L (S := (fun W => W.cell? ⟨Bc, 3, none⟩ = some (.slice a2 q c2))) (f := 7) (by kernel_rfl) ?_
            refine wpAnyL_take (i := 0) (some 43) (v := .pointer (some ⟨Bc, 3, none⟩)) rfl rfl (by kernel_rfl) (by kernel_rfl) (by kernel_rfl) (by kernel_rfl) (fun _ _ _ h => h) (by rfl) (fun W hS => ?_) HS0 ?_
            · rcases hS with m0
              go_simp
            try simp only [Act.put, List.setIfInBounds_toArray, List.set_cons_zero, List.set_cons_succ]
            refine wpAnyL_take (i := 1) (some 44) (v := .slice a2 q c2) rfl rfl (by kernel_rfl) (by kernel_rfl) (by kernel_rfl) (by kernel_rfl) (fun _ _ _ h => h) (by rfl) (fun W hS => ?_) HS0 ?_
            · rcases hS with m0
              go_simp
            try simp only [Act.put, List.setIfInBounds_toArray, List.set_cons_zero, List.set_cons_succ]
            refine wpAnyL_take (i := 2) (some 45) (v := .string ⟨n.toArray⟩) rfl rfl (by kernel_rfl) (by kernel_rfl) (by kernel_rfl) (by kernel_rfl) (fun _ _ _ h => h) (by rfl) (fun W hS => ?_) HS0 ?_
            · rcases hS with m0
              go_simp
            try simp only [Act.put, List.setIfInBounds_toArray, List.set_cons_zero, List.set_cons_succ]
            refine wpAnyL_one (j := 3) (by kernel_rfl) rfl (by rfl) (fun K hK => ?_)
            go_simp
            with_reducible refine (HC1.out _).mono ?_
            rintro e w1 ⟨rfl, hb⟩
            have HS1 := (hb.cell (p := ⟨Bc, 3, none⟩) (World.block_lt_of_cell? _ _ HS0)).trans HS0
            have HB1 := Lib.hid hb
            clear hb
            refine hK _ _ (fun _ => HS1) ?_
            clear hK K
            try simp only [Act.put, List.setIfInBounds_toArray, List.set_cons_zero, List.set_cons_succ]
            refine wpAnyL_one (j := 4) (by kernel_rfl) rfl (by rfl) (fun K hK => ?_)
            refine oper_wp_val (v := .slice (some ⟨w1.heap.size, 0, none⟩) 1 1) (w' := w1.alloc (.cells #[.string ⟨n.toArray⟩] 9)) (by go_simp) ?_
            have HO2 := Lib.hid (owns_kept (S := fun _ => True) HO1.out ((Keeps.refl (fun _ => True) wr).drew.trans (Keeps.of_below HB1.out fun _ h _ => h)) fun _ _ => trivial)
            have hz2r : wr.heap.size ≤ w1.heap.size := HB1.out.size
            have HS3 := (World.cell?_alloc_lt w1 (.cells #[.string ⟨n.toArray⟩] 9) ⟨Bc, 3, none⟩ (World.block_lt_of_cell? _ _ HS1)).trans HS1
            refine hK _ _ (fun _ => HS3) ?_
            clear hK K
            try simp only [Act.put, List.setIfInBounds_toArray, List.set_cons_zero, List.set_cons_succ]
            refine wpAnyL_one (j := 5) (by kernel_rfl) rfl (by rfl) (fun K hK => ?_)
            refine wp_append_lies _ (.tmp 44) (.tmp 47) 57 rfl wb.heap.size 9 iS _ 1 16 Try.underlying57 hiS hiS0 hiS1 hiS2 rfl (by decide) (.slice a2 q c2) q (wcells (ws.take q)) rfl (HO2.out.alloc _) ⟨w1.heap.size, 0, none⟩ 1 1 [.string ⟨n.toArray⟩] rfl rfl (one_news w1 _ rfl _ _) (by simp [Value.oneCell']) (by decide) (by unfold maxLen; omega) (by omega) (by simp; omega) _ rfl ?_
            intro g cap w3 hown hgrow hat hlt3
            have HS4 := (hgrow.cell_far ⟨Bc, 3, none⟩ (World.block_lt_of_cell? _ _ HS3) (fun e => by have : wb.heap.size ≤ Bc := (HO1.out.lt _ e.symm).1; omega)).trans HS3
            have HO3 := Lib.hid hown
            have HK3 := Lib.hid (cp_kept1 HB1.out hgrow)
            have hx3 : ItBox w3 Bc k s a nF c a2 q c2 x := HK3.out.heap HX1.out (fun e => by have := (HO1.out.lt _ e.symm).1; omega)
            have gf := hx3.free.2.2.2.1
            have HX3 := Lib.hid hx3
            clear hx3 hown hgrow
            refine hK _ _ (fun _ => HS4) ?_
            clear hK K
            try simp only [Act.put, List.setIfInBounds_toArray, List.set_cons_zero, List.set_cons_succ]
            refine wpAnyL_take (i := 6) (some 49) (v := .pointer (some ⟨Bc, 3, none⟩)) rfl rfl (by kernel_rfl) (by kernel_rfl) (by kernel_rfl) (by kernel_rfl) (fun _ _ _ h => h) (by rfl) (fun W hS => ?_) HS4 ?_
            · rcases hS with m0
              go_simp
            try simp only [Act.put, List.setIfInBounds_toArray, List.set_cons_zero, List.set_cons_succ]
            refine wpAnyL_one (j := 7) (by kernel_rfl) rfl (by rfl) (fun K hK => ?_)
            go_simp
            refine hK _ _ (fun h => (h rfl).elim) ?_
            clear hK K
            try simp only [Act.put, List.setIfInBounds_toArray, List.set_cons_zero, List.set_cons_succ]
            refine wpAnyL_done (by kernel_rfl) ?_ _
            go_wp2_with fail
            go_roundw
            case rel => exact ⟨q + 1, by omega, by go_num, Lib.hid (CpL.step (by omega) hlt3' HN.out HK1.out HO1.out HK3.out HX3.out HO3.out)⟩
            case measure => simp [intOf]; omega
          · obtain rfl : q = ws.length := by omega
            obtain ⟨a2, c2, hqx, hqo, hqk⟩ := HQ.out
            rw [List.take_length] at hqo
            have hbe : ItBox wr (w.heap.size + 1) 0 [] none 0 0 none 0 0 0 := hqk.heap (HK.out.heap ((HBW.out.block _ (by omega)).trans HRS.out) (by omega)) (by omega)
            obtain ⟨e0, e1, e2, e3, e4⟩ := hqx.at
            obtain ⟨z0, z1, z2, z3, z4⟩ := hbe.at
            obtain ⟨f0, f1, f2, f3, f4⟩ := hbe.free
            have HBE := Lib.hid (hbe.store k s a nF c a2 ws.length c2 x)
            have HO2 := Lib.hid hqo
            have HK2 := Lib.hid hqk
            clear hqx hqo hqk hbe HQ
            generalize hnl : ws.length = nL at *
            have HNL := Lib.hid hnl
            clear hnl
            go_wp2
            obtain ⟨we, hwe⟩ : ∃ we, stIt wr (w.heap.size + 1) k s a nF c a2 nL c2 x = we := ⟨_, rfl⟩
            have hq1 := HNF.out
            have hq2 := HNL.out
            subst hq1 hq2
            have hout := copy_out hz0 hBc HB0.out HBW.out (by omega) HO.out HK.out HO2.out HK2.out we hwe.symm
            have hbe : ItBox we (w.heap.size + 1) k s a fs.length c a2 ws.length c2 x := hwe ▸ HBE.out
            show bodyPost _ _ _ .ret _ (stIt wr (w.heap.size + 1) k s a fs.length c a2 ws.length c2 x)
            rw [hwe]
            exact bodyPost_ret (results_cell rfl rfl (loadVarI hbe)) rfl hout
end Go.Proofs.Ytihleddhjmejoaa
