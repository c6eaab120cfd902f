/- The contract of effects of the program's exec. -/
import Derived.Test.YtokcbcjonbjkgaaGreatDoorEcCall
import Derived.Test.YtokcbcjonbjkgaaGreatDoorItSameLaw
import Derived.Test.YtokcbcjonbjkgaaGreatDoorItCopyLi
import Derived.Test.YtokcbcjonbjkgaaGreatDoorItClone
import Derived.Test.YtokcbcjonbjkgaaGreatDoorHeldL
import Derived.Deep.AppendLies
import Derived.WideLaws
namespace Go.Proofs.YtokcbcjonbjkgaaGreatDoor
open Go.RowKit Go.Shelf
attribute [local go_sem] Oper.semAt_some
set_option linter.unusedVariables false
set_option linter.unusedSimpArgs false

/-- what effects has made of so many keys. -/
def EffI (c : Cl) (W0 : World) (n : Nat) (u : Value) (W : World) : Prop :=
  ∃ es, RowX W0 u es W ∧ es.map Le.e = Ec.effects c.bf.i c.it.i (c.ks.take n) ∧ es.length ≤ n ∧ ∀ e ∈ es, ∀ g, g < W0.heap.size → e.it.Far (some g)
def EffOut (c : Cl) (W0 : World) (e : Ending) (W : World) : Prop :=
  ∃ u es, e = .returned u ∧ RowX W0 u es W ∧ es.map Le.e = Ec.effects c.bf.i c.it.i c.ks ∧ ∀ e ∈ es, ∀ g, g < W0.heap.size → e.it.Far (some g)
theorem effects_snoc (bf it : Ec.M) (l : List (List UInt8)) (k : List UInt8) : Ec.effects bf it (l ++ [k]) = Ec.effects bf it l ++ (if It.sameB ((bf k).getD Ec.z0) ((it k).getD Ec.z0) then [] else [match it k with | some i => ⟨k, false, i⟩ | none => ⟨k, true, Ec.z0⟩]) := by
  unfold Ec.effects
  rw [List.filterMap_append]
  congr 1
  by_cases h : It.sameB ((bf k).getD Ec.z0) ((it k).getD Ec.z0) = true
  · simp [h]
  · simp [h]
    cases it k <;> rfl
theorem iv_get (f : ML) (k : List UInt8) : ((f.v k).getD zeroIv) = ((f k).getD Li.zero).v ∧ (f.v k).isSome = (f k).isSome := by
  unfold ML.v
  cases f k <;> simp [zeroIv, Li.v, Li.zero, itv]
theorem ii_get (f : ML) (k : List UInt8) : (f.i k).getD Ec.z0 = ((f k).getD Li.zero).i := by
  unfold ML.i
  cases f k <;> rfl
theorem ML.Ok.get {c : Cl} {f : ML} {W : World} (h : f.Ok c W) (k : List UInt8) : ((f k).getD Li.zero).Ok W ∧ ((f k).getD Li.zero).i.Sm := by
  cases hf : f k with
  | none => exact ⟨Li.zero_ok W, by simp [It.I.Sm, Li.zero, Li.i]⟩
  | some i => exact ⟨(h k i hf).1, (h k i hf).2.2⟩

set_option maxRecDepth 100000 in
set_option maxHeartbeats 8000000 in
theorem effects_c (c : Cl) (w0 W : World) (h : c.At w0 W) : Calls Tryz.prog 21 #[.pointer (some ⟨c.p, 0, none⟩)] W (EffOut c W) := by
  obtain ⟨iE, hiE, hiE0, hiE1, hiE2⟩ := info_parts infoE
  have hkl := h.ksl.1
  have hkI : (c.ks.length : Int) ≤ 1000 := by omega
  obtain ⟨ka, kc, hkv, hkw, -⟩ := wds_of_row (ws := c.ks) h.hk (fun s hs => by have := h.ksl.2 s hs; omega)
  obtain ⟨p, hp⟩ : ∃ p, c.p = p := ⟨_, rfl⟩
  obtain ⟨-, -, -, -, q4, -, -, -⟩ := h.cell
  rw [hkv, hp] at q4
  have hpl : p < W.heap.size := by rw [← hp]; exact h.lt.1
  rw [hp]
  have H := Lib.hid h
  have HP := Lib.hid hp
  have HKW := Lib.hid hkw
  clear h hp hkv hkw
  go_enter Tryz.func21, Tryz.ntmps21
  go_wp2
  go_step3
  go_wp2
  refine wp_label ?_
  simp only [Exit.then]
  go_wp2
  obtain ⟨W9, hW9⟩ : ∃ W9 : World, W9 = W := ⟨_, rfl⟩
  go_loopw [3, 13] (fun u i wr => ∃ n : Nat, n ≤ c.ks.length ∧ i = .int .i64 n ∧ Hid (EffI c W n u wr)) (fun _ i _ => c.ks.length - (intOf i).toNat)
  case atStart => exact ⟨0, Nat.zero_le _, rfl, Lib.hid ⟨[], RowX.none (Below.refl _ _), rfl, Nat.zero_le _, by simp⟩⟩
  case round =>
    obtain ⟨n, hn, rfl, HI⟩ := hrel
    by_cases hlt : n < c.ks.length
    · obtain ⟨es, hR, hE, hel, hF⟩ := HI.out
      have hA := H.out.later hR.2.1
      obtain ⟨bk, ok, rfl, hbk, hck⟩ := (HKW.out.later hR.2.1).get (by omega)
      have qk := hck n hlt
      have HX : Hid (c.ks.take (n + 1) = c.ks.take n ++ [c.ks.getD n []]) := Lib.hid (by rw [List.take_succ_eq_append_getElem hlt]; congr 2; simp [List.getD, hlt])
      have hkey : (c.ks.getD n []).length ≤ 1000000 := H.out.ksl.2 _ (by simp [List.getD, hlt])
      obtain ⟨key, hky⟩ : ∃ key, c.ks.getD n [] = key := ⟨_, rfl⟩
      rw [hky] at qk HX hkey
      clear hck hky
      obtain ⟨-, -, -, -, -, q5, q6, -⟩ := hA.cell
      rw [HP.out] at q5 q6
      obtain ⟨mb, hmb⟩ : ∃ mb, c.mb = mb := ⟨_, rfl⟩
      obtain ⟨mi, hmi⟩ : ∃ mi, c.mi = mi := ⟨_, rfl⟩
      rw [hmb] at q5
      rw [hmi] at q6
      have hlk := (hmi ▸ hA.hi : MapI wr mi c.ni c.it.v).lookOk key hkey
      rw [(iv_get c.it key).1, (iv_get c.it key).2] at hlk
      have HBF : Hid (MapI wr mb c.nb c.bf.v) := Lib.hid (hmb ▸ hA.hb)
      obtain ⟨okI, smI⟩ := hA.ki.get key
      obtain ⟨okB, smB⟩ := hA.kb.get key
      have HPL : Hid (Ec.effects c.bf.i c.it.i (c.ks.take (n + 1)) = Ec.effects c.bf.i c.it.i (c.ks.take n) ++ (if It.sameB ((c.bf key).getD Li.zero).i ((c.it key).getD Li.zero).i then [] else [match (c.it key).map Li.i with | some i => ⟨key, false, i⟩ | none => ⟨key, true, Ec.z0⟩])) := Lib.hid (by rw [HX.out, effects_snoc, ii_get, ii_get]; rfl)
      have HIT : Hid (∀ i, c.it key = some i → ((c.it key).getD Li.zero) = i) := Lib.hid fun i h => by rw [h]; rfl
      have hplr : p < wr.heap.size := by rw [← HP.out]; exact hA.lt.1
      obtain ⟨oi, hoi⟩ : ∃ oi, c.it key = oi := ⟨_, rfl⟩
      rw [hoi] at hlk okI smI HPL
      obtain ⟨⟨k0, s0, aF0, fs0, cF0, aL0, ls0, cL0, xx0⟩, hb0⟩ : ∃ q, (c.bf key).getD Li.zero = q := ⟨_, rfl⟩
      have hbl : ∀ W', Below wr.heap.size wr W' → (Instr.lookup 82 (.map (some mb)) (.string ⟨key.toArray⟩) false).run Tryz.prog W' = .ok (.agg #[.int .i64 k0, .string ⟨s0.toArray⟩, .slice aF0 fs0.length cF0, .slice aL0 ls0.length cL0, .int .i64 xx0]) W' := fun W' hb => by
        have := (HBF.out.later hb).look key hkey
        rw [(iv_get c.bf key).1, hb0] at this
        exact this
      rw [hb0] at okB smB HPL
      have HLKR := Lib.hid hbl
      have HOI := Lib.hid hoi
      obtain ⟨⟨k, s, aF, fs, cF, aL, ls, cL, x⟩, hi0⟩ : ∃ q, oi.getD Li.zero = q := ⟨_, rfl⟩
      rw [hi0] at hlk okI smI HPL
      have HI0 := Lib.hid hi0
      have HOKI := Lib.hid okI
      have HOKB := Lib.hid okB
      have HSMI := Lib.hid smI
      have HR := Lib.hid hR
      have HE := Lib.hid hE
      have HEL := Lib.hid hel
      have HF := Lib.hid hF
      simp only [Li.v, itv] at hlk
      obtain ⟨hs, hhs⟩ : ∃ hs, oi.isSome = hs := ⟨_, rfl⟩
      rw [hhs] at hlk
      have HHS := Lib.hid hhs
      have n0 : (0 : Int) ≤ (n : Int) := by omega
      have n1 : (n : Int) < (c.ks.length : Int) := by omega
      clear hA hR hE hel hF HI hmb hmi okI okB smI smB hoi hb0 hi0 hbl hhs
      go_upto_region 7 with (fail)
      obtain ⟨wq, hwq⟩ : ∃ wq, wr.alloc (.cells #[.int .i64 k, .string ⟨s.toArray⟩, .slice aF fs.length cF, .slice aL ls.length cL, .int .i64 x] 38) = wq := ⟨_, rfl⟩
      have hxb : ItBox wq wr.heap.size k s aF fs.length cF aL ls.length cL x := by rw [← hwq]; exact ItBox.new wr k s aF fs.length cF aL ls.length cL x
      have hbq : Below wr.heap.size wr wq := by rw [← hwq]; exact (Below.refl _ _).alloc (Nat.le_refl _) _
      have q5q := (hbq.cell (p := ⟨p, 5, none⟩) hplr).trans q5
      have hplq : p < wq.heap.size := Nat.lt_of_lt_of_le hplr hbq.size
      have HLK : Hid (∀ W', Below wq.heap.size wq W' → (Instr.lookup 82 (.map (some mb)) (.string ⟨key.toArray⟩) false).run Tryz.prog W' = .ok (.agg #[.int .i64 k0, .string ⟨s0.toArray⟩, .slice aF0 fs0.length cF0, .slice aL0 ls0.length cL0, .int .i64 xx0]) W') := Lib.hid fun W' hb => HLKR.out W' (hbq.trans (hb.mono hbq.size))
      obtain ⟨x0, x1, x2, x3, x4⟩ := hxb.at
      have hBl := hxb.lt
      have HRQ := Lib.hid (HR.out.later hbq)
      have HOKQ := Lib.hid (HOKI.out.later hbq)
      obtain ⟨SB, hSB⟩ : ∃ SB, It.sameB ⟨k0, s0, fs0, ls0, xx0⟩ ⟨k, s, fs, ls, x⟩ = SB := ⟨_, rfl⟩
      have HSM : Hid (∀ W', Below wq.heap.size wq W' → Calls Tryz.prog 33 #[.agg #[.int .i64 k0, .string ⟨s0.toArray⟩, .slice aF0 fs0.length cF0, .slice aL0 ls0.length cL0, .int .i64 xx0], .agg #[.int .i64 k, .string ⟨s.toArray⟩, .slice aF fs.length cF, .slice aL ls.length cL, .int .i64 x]] W' fun e w' => e = .returned (.bool SB) ∧ Below W'.heap.size W' w') := Lib.hid fun W' hb => by
        rw [← hSB]
        have hbb := hbq.trans (hb.mono hbq.size)
        exact same_any k0 k xx0 x s0 s aF0 aF cF0 cF fs0 fs aL0 aL cL0 cL ls0 ls W' (HOKB.out.later hbb).2.1 (HOKI.out.later hbb).2.1 (HOKB.out.later hbb).2.2.1 (HOKI.out.later hbb).2.2.1
      have HSB := Lib.hid hSB
      rw [hwq]
      obtain ⟨B, hB⟩ : ∃ B, wr.heap.size = B := ⟨_, rfl⟩
      have hBu : some B ≠ u3.ownBlock := fun e => by have := (HR.out.1.lt B e.symm).2; omega
      rw [hB] at x0 x1 x2 x3 x4 hBl ⊢
      clear hwq hxb hbq q5 q6 qk hlk HLKR hSB hplr
      have HS0 : Below wq.heap.size wq wq.drew := (Below.refl _ wq).drew
      refine wp_region_L (S := fun W => Below wq.heap.size wq W) (f := 9) (by kernel_rfl) ?_
      refine wpAnyL_take (i := 0) (some 33) (v := .pointer (some ⟨p, 0, none⟩)) rfl rfl (by kernel_rfl) (by kernel_rfl) (by kernel_rfl) (by kernel_rfl) (fun _ _ _ h => h) (by rfl) (fun W hS => ?_) HS0 ?_
      · go_simp
      try simp only [Act.put, List.setIfInBounds_toArray, List.set_cons_zero, List.set_cons_succ]
      refine wpAnyL_take (i := 1) (some 34) (v := .pointer (some ⟨p, 0, none⟩)) rfl rfl (by kernel_rfl) (by kernel_rfl) (by kernel_rfl) (by kernel_rfl) (fun _ _ _ h => h) (by rfl) (fun W hS => ?_) HS0 ?_
      · go_simp
      try simp only [Act.put, List.setIfInBounds_toArray, List.set_cons_zero, List.set_cons_succ]
      refine wpAnyL_take (i := 2) (some 35) (v := .pointer (some ⟨p, 5, none⟩)) rfl rfl (by kernel_rfl) (by kernel_rfl) (by kernel_rfl) (by kernel_rfl) (fun _ _ _ h => h) (by rfl) (fun W hS => ?_) HS0 ?_
      · go_simp
      try simp only [Act.put, List.setIfInBounds_toArray, List.set_cons_zero, List.set_cons_succ]
      refine wpAnyL_take (i := 3) (some 36) (v := .map (some mb)) rfl rfl (by kernel_rfl) (by kernel_rfl) (by kernel_rfl) (by kernel_rfl) (fun _ _ _ h => h) (by rfl) (fun W hS => ?_) HS0 ?_
      · have m0 := (hS.cell (p := ⟨p, 5, none⟩) hplq).trans q5q
        go_simp
      try simp only [Act.put, List.setIfInBounds_toArray, List.set_cons_zero, List.set_cons_succ]
      refine wpAnyL_take (i := 4) (some 37) (v := .string ⟨key.toArray⟩) rfl rfl (by kernel_rfl) (by kernel_rfl) (by kernel_rfl) (by kernel_rfl) (fun _ _ _ h => h) (by rfl) (fun W hS => ?_) HS0 ?_
      · go_simp
      try simp only [Act.put, List.setIfInBounds_toArray, List.set_cons_zero, List.set_cons_succ]
      refine wpAnyL_take (i := 5) (some 38) (v := .agg #[.int .i64 k0, .string ⟨s0.toArray⟩, .slice aF0 fs0.length cF0, .slice aL0 ls0.length cL0, .int .i64 xx0]) rfl rfl (by kernel_rfl) (by kernel_rfl) (by kernel_rfl) (by kernel_rfl) (fun _ _ _ h => h) (by rfl) (fun W hS => ?_) HS0 ?_
      · have m0 := HLK.out W hS
        go_simp
      try simp only [Act.put, List.setIfInBounds_toArray, List.set_cons_zero, List.set_cons_succ]
      refine wpAnyL_take (i := 6) (some 39) (v := .agg #[.int .i64 k, .string ⟨s.toArray⟩, .slice aF fs.length cF, .slice aL ls.length cL, .int .i64 x]) rfl rfl (by kernel_rfl) (by kernel_rfl) (by kernel_rfl) (by kernel_rfl) (fun _ _ _ h => h) (by rfl) (fun W hS => ?_) HS0 ?_
      · have m0 := (hS.cell (p := ⟨B, 0, none⟩) hBl).trans x0
        have m1 := (hS.cell (p := ⟨B, 1, none⟩) hBl).trans x1
        have m2 := (hS.cell (p := ⟨B, 2, none⟩) hBl).trans x2
        have m3 := (hS.cell (p := ⟨B, 3, none⟩) hBl).trans x3
        have m4 := (hS.cell (p := ⟨B, 4, none⟩) hBl).trans x4
        go_simp
      try simp only [Act.put, List.setIfInBounds_toArray, List.set_cons_zero, List.set_cons_succ]
      refine wpAnyL_one (j := 7) (by kernel_rfl) rfl (by rfl) (fun K hK => ?_)
      go_simp
      refine (HSM.out _ HS0).mono ?_
      rintro e wc1 ⟨rfl, hb⟩
      have HS1 := HS0.trans (hb.mono HS0.size)
      clear hb
      refine hK _ _ (fun _ => HS1) ?_
      clear hK K
      try simp only [Act.put, List.setIfInBounds_toArray, List.set_cons_zero, List.set_cons_succ]
      refine wpAnyL_one (j := 8) (by kernel_rfl) rfl (by rfl) (fun K hK => ?_)
      go_simp
      refine hK _ _ (fun _ => HS1) ?_
      clear hK K
      try simp only [Act.put, List.setIfInBounds_toArray, List.set_cons_zero, List.set_cons_succ]
      refine wpAnyL_done (by kernel_rfl) ?_ _
      have HBC := Lib.hid HS1
      clear HS0 HS1
      cases SB with
      | true =>
        go_wp2
        go_roundw
        case rel => exact ⟨n + 1, by omega, by go_num, Lib.hid ⟨es, HRQ.out.later HBC.out, by rw [HPL.out, show It.sameB (Li.i ⟨k0, s0, aF0, fs0, cF0, aL0, ls0, cL0, xx0⟩) (Li.i ⟨k, s, aF, fs, cF, aL, ls, cL, x⟩) = true from HSB.out, HE.out]; simp, by have := HEL.out; omega, HF.out⟩⟩
        case measure => simp [intOf]; omega
      | false =>
        have HPF : Hid (Ec.effects c.bf.i c.it.i (c.ks.take (n + 1)) = Ec.effects c.bf.i c.it.i (c.ks.take n) ++ [match oi.map Li.i with | some i => ⟨key, false, i⟩ | none => ⟨key, true, Ec.z0⟩]) := Lib.hid (by
          rw [HPL.out, show It.sameB (Li.i ⟨k0, s0, aF0, fs0, cF0, aL0, ls0, cL0, xx0⟩) (Li.i ⟨k, s, aF, fs, cF, aL, ls, cL, x⟩) = false from HSB.out]
          rfl)
        have HCL := Lib.hid (fun W' => clone_any key W' (by omega))
        have HRC := Lib.hid (HRQ.out.later HBC.out)
        have hbx : Below wq.heap.size wq wc1 := HBC.out
        have hel := HEL.out
        cases hs with
        | false =>
          have hon : oi = none := by cases oi with | none => rfl | some i => cases HHS.out
          have HON := Lib.hid hon
          clear hon hbx
          go_wp2_with (first
            | (go_at_call 34; refine (HCL.out _).mono ?_; rintro e w2 ⟨rfl, hb2⟩; have HR2 := Lib.hid (HRC.out.later hb2); clear hb2)
            | (at_builtin; refine wpList_append_lies _ rfl (.tmp 26) (.tmp 30) 27 rfl W.heap.size 40 iE _ 7 104 Tryz.underlying27 hiE hiE0 hiE1 hiE2 rfl (by decide) u3 es.length ((es.map Le.cs).flatten) rfl (HR2.out.1.alloc _) ⟨w2.heap.size, 0, none⟩ 1 1 [.string ⟨key.toArray⟩, .bool true, .int .i64 0, .string ⟨#[]⟩, .slice none 0 0, .slice none 0 0, .int .i64 0] rfl rfl (row_news w2 _ rfl _ _) (Le.cs_one ⟨key, true, 0, [], none, [], 0, none, [], 0, 0⟩) (by decide) (by unfold maxLen; omega) (by omega) (by have := HR2.out.2.1.size; simp; omega) _ rfl ?_
               intro g cp w4 hown hgrow hat hl4
               have HR4 := Lib.hid (RowX.append (e := ⟨key, true, Li.zero⟩) HR2.out hown hgrow hat ⟨by show key.length ≤ _; omega, Li.zero_ok _⟩ ⟨fun h => (h rfl).elim, fun h => (h rfl).elim⟩)
               clear hown hgrow hat))
          go_roundw
          case rel => exact ⟨n + 1, by omega, by go_num, Lib.hid ⟨_, HR4.out, by rw [List.map_append, HPF.out, HE.out, HON.out]; rfl, by simp; omega, fun e he g hg => by
            rcases List.mem_append.1 he with he | he
            · exact HF.out e he g hg
            · rw [List.mem_singleton.1 he]; exact ⟨fun h => (h rfl).elim, fun h => (h rfl).elim⟩⟩⟩
          case measure => simp [intOf]; omega
        | true =>
          have hos : oi = some ⟨k, s, aF, fs, cF, aL, ls, cL, x⟩ := by
            cases oi with
            | none => cases HHS.out
            | some i => exact congrArg some HI0.out
          have HOS := Lib.hid hos
          have HCP := Lib.hid (fun W' (h : (⟨k, s, aF, fs, cF, aL, ls, cL, x⟩ : Li).Ok W') => copy_li k x s aF fs cF aL ls cL W' h HSMI.out)
          have HOKC := Lib.hid (HOKQ.out.later HBC.out)
          have hBlc : B < wc1.heap.size := Nat.lt_of_lt_of_le hBl hbx.size
          have y0 := (hbx.cell (p := ⟨B, 0, none⟩) hBl).trans x0
          have y1 := (hbx.cell (p := ⟨B, 1, none⟩) hBl).trans x1
          have y2 := (hbx.cell (p := ⟨B, 2, none⟩) hBl).trans x2
          have y3 := (hbx.cell (p := ⟨B, 3, none⟩) hBl).trans x3
          have y4 := (hbx.cell (p := ⟨B, 4, none⟩) hBl).trans x4
          clear hos hbx x0 x1 x2 x3 x4
          go_wp2
          have HS0 : Kp u3 wc1 wc1.drew := (Kp.refl u3 wc1).drew
          refine wp_region_L (S := fun W => Kp u3 wc1 W) (f := 11) (by kernel_rfl) ?_
          refine wpAnyL_take (i := 0) (some 43) (v := u3) rfl rfl (by kernel_rfl) (by kernel_rfl) (by kernel_rfl) (by kernel_rfl) (fun _ _ _ h => h) (by rfl) (fun W hS => ?_) HS0 ?_
          · go_simp
          try simp only [Act.put, List.setIfInBounds_toArray, List.set_cons_zero, List.set_cons_succ]
          refine wpAnyL_take (i := 1) (some 44) (v := .string ⟨key.toArray⟩) rfl rfl (by kernel_rfl) (by kernel_rfl) (by kernel_rfl) (by kernel_rfl) (fun _ _ _ h => h) (by rfl) (fun W hS => ?_) HS0 ?_
          · go_simp
          try simp only [Act.put, List.setIfInBounds_toArray, List.set_cons_zero, List.set_cons_succ]
          refine wpAnyL_take (i := 3) (some 46) (v := .agg #[.int .i64 k, .string ⟨s.toArray⟩, .slice aF fs.length cF, .slice aL ls.length cL, .int .i64 x]) rfl rfl (by kernel_rfl) (by kernel_rfl) (by kernel_rfl) (by kernel_rfl) (fun _ _ _ h => h) (by rfl) (fun W hS => ?_) HS0 ?_
          · have m0 := (hS.cell (p := ⟨B, 0, none⟩) hBlc hBu).trans y0
            have m1 := (hS.cell (p := ⟨B, 1, none⟩) hBlc hBu).trans y1
            have m2 := (hS.cell (p := ⟨B, 2, none⟩) hBlc hBu).trans y2
            have m3 := (hS.cell (p := ⟨B, 3, none⟩) hBlc hBu).trans y3
            have m4 := (hS.cell (p := ⟨B, 4, none⟩) hBlc hBu).trans y4
            go_simp
          try simp only [Act.put, List.setIfInBounds_toArray, List.set_cons_zero, List.set_cons_succ]
          refine wpAnyL_one (j := 2) (by kernel_rfl) rfl (by rfl) (fun K hK => ?_)
          go_simp
          refine (HCL.out _).mono ?_
          rintro e w2 ⟨rfl, hb⟩
          have HS1 := HS0.next hb
          have HB2 := Lib.hid ((Below.refl _ wc1).drew.trans hb)
          clear hb
          refine hK _ _ (fun _ => HS1) ?_
          clear hK K
          try simp only [Act.put, List.setIfInBounds_toArray, List.set_cons_zero, List.set_cons_succ]
          refine wpAnyL_one (j := 4) (by kernel_rfl) rfl (by rfl) (fun K hK => ?_)
          go_simp
          refine (HCP.out _ (HOKC.out.later HB2.out)).mono ?_
          rintro e w3 ⟨bF, dF, bL, dL, rfl, hok3, hb, hfar3⟩
          have HS2 := HS1.next hb
          have HB3 := Lib.hid hb
          have HOK3 := Lib.hid hok3
          have HFR3 := Lib.hid hfar3
          clear hb hok3 hfar3
          refine hK _ _ (fun _ => HS2) ?_
          clear hK K
          try simp only [Act.put, List.setIfInBounds_toArray, List.set_cons_zero, List.set_cons_succ]
          refine wpAnyL_take (i := 5) (some 48) (v := .agg #[.string ⟨key.toArray⟩, .bool false, .int .i64 k, .string ⟨s.toArray⟩, .slice bF fs.length dF, .slice bL ls.length dL, .int .i64 x]) rfl rfl (by kernel_rfl) (by kernel_rfl) (by kernel_rfl) (by kernel_rfl) (fun _ _ _ h => h) (by rfl) (fun W hS => ?_) HS2 ?_
          · go_simp
          try simp only [Act.put, List.setIfInBounds_toArray, List.set_cons_zero, List.set_cons_succ]
          refine wpAnyL_one (j := 6) (by kernel_rfl) rfl (by rfl) (fun K hK => ?_)
          refine oper_wp_val (v := .slice (some ⟨w3.heap.size, 0, none⟩) 1 1) (w' := w3.alloc (.cells #[.string ⟨key.toArray⟩, .bool false, .int .i64 k, .string ⟨s.toArray⟩, .slice bF fs.length dF, .slice bL ls.length dL, .int .i64 x] 40)) (by go_simp) ?_
          have HS3 := HS2.alloc (.cells #[.string ⟨key.toArray⟩, .bool false, .int .i64 k, .string ⟨s.toArray⟩, .slice bF fs.length dF, .slice bL ls.length dL, .int .i64 x] 40)
          refine hK _ _ (fun _ => HS3) ?_
          clear hK K
          try simp only [Act.put, List.setIfInBounds_toArray, List.set_cons_zero, List.set_cons_succ]
          have HR3 := Lib.hid ((HRC.out.later HB2.out).later HB3.out)
          have hz3 := HR3.out.2.1.size
          refine wpAnyL_one (j := 7) (by kernel_rfl) rfl (by rfl) (fun K hK => ?_)
          refine wp_append_lies _ (.tmp 43) (.tmp 49) 27 rfl W.heap.size 40 iE _ 7 104 Tryz.underlying27 hiE hiE0 hiE1 hiE2 rfl (by decide) u3 es.length ((es.map Le.cs).flatten) rfl (HR3.out.1.alloc _) ⟨w3.heap.size, 0, none⟩ 1 1 [.string ⟨key.toArray⟩, .bool false, .int .i64 k, .string ⟨s.toArray⟩, .slice bF fs.length dF, .slice bL ls.length dL, .int .i64 x] rfl rfl (row_news w3 _ rfl _ _) (Le.cs_one ⟨key, false, k, s, bF, fs, dF, bL, ls, dL, x⟩) (by decide) (by unfold maxLen; omega) (by omega) (by simp; omega) _ rfl ?_
          intro g cp w4 hown hgrow hat hlt3
          have HS4 := HS3.grown (v := u3) hgrow (Nw.refl _ _)
          have hul : ∀ g, u3.ownBlock = some g → g < wc1.heap.size := fun g e => (HRC.out.1.lt g e).2
          have HR4 := Lib.hid (RowX.append (e := ⟨key, false, k, s, bF, fs, dF, bL, ls, dL, x⟩) HR3.out hown hgrow hat ⟨by show key.length ≤ _; omega, HOK3.out⟩ (HFR3.out _ fun g e => Nat.lt_of_lt_of_le (hul g e) HB2.out.size))
          refine hK _ _ (fun _ => HS4) ?_
          clear hK K hown hgrow hat
          try simp only [Act.put, List.setIfInBounds_toArray, List.set_cons_zero, List.set_cons_succ]
          refine wpAnyL_one (j := 8) (by kernel_rfl) rfl (by rfl) (fun K hK => ?_)
          go_simp
          refine hK _ _ (fun _ => HS4) ?_
          clear hK K
          try simp only [Act.put, List.setIfInBounds_toArray, List.set_cons_zero, List.set_cons_succ]
          refine wpAnyL_done (by kernel_rfl) ?_ _
          go_wp2
          go_roundw
          case rel => exact ⟨n + 1, by omega, by go_num, Lib.hid ⟨_, HR4.out, by rw [List.map_append, HPF.out, HE.out, HOS.out]; rfl, by simp; omega, fun e he g hg => by
            rcases List.mem_append.1 he with he | he
            · exact HF.out e he g hg
            · rw [List.mem_singleton.1 he]
              exact HFR3.out _ fun g' e => by
                cases e
                have h1 := HRC.out.2.1.size
                have h2 := HB2.out.size
                omega⟩⟩
          case measure => simp [intOf]; omega
    · obtain rfl : n = c.ks.length := by omega
      have k1 : ¬ (c.ks.length : Int) < (c.ks.length : Int) := by omega
      go_wp2
      go_ret
      obtain ⟨es, hR, hE, -, hF⟩ := HI.out
      exact ⟨u3, es, rfl, hR, by rw [hE, List.take_length], hF⟩
end Go.Proofs.YtokcbcjonbjkgaaGreatDoor
