/- The program's with and All once more: the items lie in memory made since (11.1). -/
import Derived.Test.YtihleddhjmejoaaMD35
namespace Go.Proofs.Ytihleddhjmejoaa
open Go.RowKit Go.Shelf
attribute [local go_sem] Oper.semAt_some
set_option linter.unusedVariables false
set_option linter.unusedSimpArgs false

def WithOutN (os : List Lp) (w0 : World) (v0 : Value) (qs : List Db.P) (w : World) (e : Ending) (W : World) : Prop :=
  ∃ v out, e = .returned v ∧ RowQ w0 v out W ∧ out.map Lp.p = qs ∧ Kp v0 w W ∧ Nw v0 v w ∧ ∀ m ∈ out, m ∈ os ∨ ∀ g, g < w.heap.size → m.it.Far (some g)
def WithInvN (os : List Lp) (w0 : World) (v0 : Value) (qs : List Db.P) (w : World) (v : Value) (n : Nat) (W : World) : Prop :=
  ∃ out, RowQ w0 v out W ∧ out.map Lp.p = qs ∧ out.length ≤ n ∧ Kp v0 w W ∧ Nw v0 v w ∧ ∀ m ∈ out, m ∈ os ∨ ∀ g, g < w.heap.size → m.it.Far (some g)
/-- effects whose items lie in memory made since. -/
def EfNew (qs : List Db.E) (w : World) (e : Ending) (W : World) : Prop := ∃ a cap es, e = .returned (.slice a es.length cap) ∧ Efs W a cap es ∧ (a = none → cap = 0) ∧ es.map Le.e = qs ∧ Below w.heap.size w W ∧ ∀ e ∈ es, ∀ g, g < w.heap.size → e.it.Far (some g)

set_option maxRecDepth 100000 in
set_option maxHeartbeats 8000000 in
theorem with_new (w0 : World) (v0 : Value) (os : List Lp) (a : Option Addr) (cap : Nat) (ms : List Lp) (w : World) (hR : RowQ w0 v0 os w) (hM : Prs w a cap ms) (ha : ms ≠ [] → ∀ b off, a = some ⟨b, off, none⟩ → some b ≠ v0.ownBlock) (hF : ∀ m ∈ ms, m.it.Far v0.ownBlock)
    (hsm : ∀ m ∈ ms, m.p.Sm) (hn : os.length ≤ 1000000) (hm : ms.length ≤ 1000000) :
    Calls Try.prog 51 #[v0, .slice a ms.length cap] w (WithOutN os w0 v0 (os.map Lp.p ++ ms.map Lp.p) w) := by
  obtain ⟨iE, hiE, hiE0, hiE1, hiE2⟩ := info_parts infoP
  have HM := Lib.hid hM
  have HA := Lib.hid ha
  have HF := Lib.hid hF
  have HSM := Lib.hid hsm
  have HR0 := Lib.hid hR
  have hnI : (ms.length : Int) ≤ 1000000 := by omega
  clear hM ha hF hsm hR
  go_enter Try.func51, Try.ntmps51
  go_wp2
  go_loopw [0, 6, 9] (fun u _ i wr => ∃ n : Nat, n ≤ ms.length ∧ i = .int .i64 n ∧ Hid (WithInvN os w0 v0 (os.map Lp.p ++ (ms.take n).map Lp.p) w u (os.length + n) wr)) (fun _ _ i _ => ms.length - (intOf i).toNat)
  case atStart => exact ⟨0, Nat.zero_le _, rfl, Lib.hid ⟨os, HR0.out, by simp, Nat.le_refl _, Kp.refl _ _, Nw.refl _ _, fun m hm => .inl hm⟩⟩
  case round =>
    obtain ⟨n, hn', rfl, HI⟩ := hrel
    by_cases hlt : n < ms.length
    · obtain ⟨out, hro, hop, hol, hkp, hnw, hnx⟩ := HI.out
      obtain ⟨b, off, rfl, hb, hc⟩ := HM.out.get (by omega)
      have hne := HA.out (by rintro rfl; simp at hlt) b off rfl
      have hq0 := (hc n hlt).keep (hkp.block hb hne)
      have hmem : ms.getD n Lp.zero ∈ ms := by rw [getD_eq hlt]; exact List.getElem_mem hlt
      have hok0 := HM.out.at hlt
      have hok : (ms.getD n Lp.zero).Ok wr := ⟨hok0.1, hok0.2.kept (HF.out _ hmem) hkp⟩
      have hsm := HSM.out _ hmem
      have HX := Lib.hid (show (ms.take (n + 1)).map Lp.p = (ms.take n).map Lp.p ++ [(ms.getD n Lp.zero).p] by rw [take_succ_getD (d := Lp.zero) hlt, List.map_append]; rfl)
      have HRO := Lib.hid hro
      have HOP := Lib.hid hop
      have HKP := Lib.hid hkp
      have HNW := Lib.hid hnw
      have HNX := Lib.hid hnx
      have hzr := hro.2.1.size
      have hbr : b < wr.heap.size := Nat.lt_of_lt_of_le hb hkp.sz
      clear hc hne hmem hok0 HI hro hop hkp hnw hnx
      obtain ⟨⟨key, k, s, aF, fs, cF, aL, ws, cL, x⟩, hq⟩ : ∃ q, ms.getD n Lp.zero = q := ⟨_, rfl⟩
      rw [hq] at hq0 HX hok hsm
      clear hq
      obtain ⟨q0, q1, q2, q3, q4, q5⟩ := hq0
      have HOK := Lib.hid hok
      have HSM1 := Lib.hid hsm
      have hkl : key.length ≤ 1000000 := hsm.1
      clear hok hsm
      have k0 : (0 : Int) ≤ (n : Int) := by omega
      have k1 : (n : Int) < (ms.length : Int) := by omega
      have HCL := Lib.hid (fun W => clone_any key W (by omega))
      have HCP := Lib.hid (fun W h => copy_li k x s aF fs cF aL ws cL W h HSM1.out.2)
      go_upto_region 4 with (fail)
      obtain ⟨w1, hw1⟩ : ∃ w1, wr.alloc (.cells #[.string ⟨key.toArray⟩, .int .i64 k, .string ⟨s.toArray⟩, .slice aF fs.length cF, .slice aL ws.length cL, .int .i64 x] 65) = w1 := ⟨_, rfl⟩
      have hx1 := World.alloc_heap_new wr (.cells #[.string ⟨key.toArray⟩, .int .i64 k, .string ⟨s.toArray⟩, .slice aF fs.length cF, .slice aL ws.length cL, .int .i64 x] 65)
      have hb1 : Below wr.heap.size wr w1 := by rw [← hw1]; exact (Below.refl _ wr).alloc (Nat.le_refl _) _
      rw [hw1] at hx1 ⊢
      have hxb : wr.heap.size < w1.heap.size := (Array.getElem?_eq_some_iff.1 hx1).1
      obtain ⟨p0, p1, p2, p3, p4, p5⟩ : PAt w1 wr.heap.size 0 ⟨key, k, s, aF, fs, cF, aL, ws, cL, x⟩ := by
        unfold PAt
        simp [World.cell?, hx1]
      have HB1 := Lib.hid hb1
      have HOK1 : Hid ((⟨key, k, s, aF, fs, cF, aL, ws, cL, x⟩ : Lp).Ok w1) := Lib.hid ⟨HOK.out.1, HOK.out.2.later hb1⟩
      have HR1 := Lib.hid (HRO.out.later hb1)
      have hxn : some wr.heap.size ≠ u0.ownBlock := fun e => by
        have := (HRO.out.lt _ e.symm).2
        omega
      clear hw1 hx1 hb1 q0 q1 q2 q3 q4 q5 HOK
      have HS0 : Kp u0 w1 w1.drew := (Kp.refl u0 w1).drew
      refine wp_region_L (S := fun W => Kp u0 w1 W) (f := 11) (by kernel_rfl) ?_
      refine wpAnyL_take (i := 0) (some 13) (v := u0) rfl rfl (by kernel_rfl) (by kernel_rfl) (by kernel_rfl) (by kernel_rfl) (fun _ _ _ h => h) (by rfl) (fun W hS => ?_) HS0 ?_
      · go_simp
      try simp only [Act.put, List.setIfInBounds_toArray, List.set_cons_zero, List.set_cons_succ]
      refine wpAnyL_take (i := 1) (some 14) (v := .pointer (some ⟨wr.heap.size, 0, none⟩)) rfl rfl (by kernel_rfl) (by kernel_rfl) (by kernel_rfl) (by kernel_rfl) (fun _ _ _ h => h) (by rfl) (fun W hS => ?_) HS0 ?_
      · go_simp
      try simp only [Act.put, List.setIfInBounds_toArray, List.set_cons_zero, List.set_cons_succ]
      refine wpAnyL_take (i := 2) (some 15) (v := .string ⟨key.toArray⟩) rfl rfl (by kernel_rfl) (by kernel_rfl) (by kernel_rfl) (by kernel_rfl) (fun _ _ _ h => h) (by rfl) (fun W hS => ?_) HS0 ?_
      · have m0 := (hS.cell (p := ⟨wr.heap.size, 0, none⟩) hxb hxn).trans p0
        go_simp
      try simp only [Act.put, List.setIfInBounds_toArray, List.set_cons_zero, List.set_cons_succ]
      refine wpAnyL_take (i := 4) (some 17) (v := .pointer (some ⟨wr.heap.size, 1, none⟩)) rfl rfl (by kernel_rfl) (by kernel_rfl) (by kernel_rfl) (by kernel_rfl) (fun _ _ _ h => h) (by rfl) (fun W hS => ?_) HS0 ?_
      · go_simp
      try simp only [Act.put, List.setIfInBounds_toArray, List.set_cons_zero, List.set_cons_succ]
      refine wpAnyL_take (i := 5) (some 18) (v := .agg #[.int .i64 k, .string ⟨s.toArray⟩, .slice aF fs.length cF, .slice aL ws.length cL, .int .i64 x]) rfl rfl (by kernel_rfl) (by kernel_rfl) (by kernel_rfl) (by kernel_rfl) (fun _ _ _ h => h) (by rfl) (fun W hS => ?_) HS0 ?_
      · have m0 := (hS.cell (p := ⟨wr.heap.size, 1, none⟩) hxb hxn).trans p1
        have m1 := (hS.cell (p := ⟨wr.heap.size, 2, none⟩) hxb hxn).trans p2
        have m2 := (hS.cell (p := ⟨wr.heap.size, 3, none⟩) hxb hxn).trans p3
        have m3 := (hS.cell (p := ⟨wr.heap.size, 4, none⟩) hxb hxn).trans p4
        have m4 := (hS.cell (p := ⟨wr.heap.size, 5, none⟩) hxb hxn).trans p5
        go_simp
      try simp only [Act.put, List.setIfInBounds_toArray, List.set_cons_zero, List.set_cons_succ]
      refine wpAnyL_one (j := 3) (by kernel_rfl) rfl (by rfl) (fun K hK => ?_)
      go_simp
      refine (HCL.out _).mono ?_
      rintro e w2 ⟨rfl, hb⟩
      have HS1 := HS0.next hb
      have HB2 := Lib.hid ((Below.refl _ w1).drew.trans hb)
      clear hb
      refine hK _ _ (fun _ => HS1) ?_
      clear hK K
      try simp only [Act.put, List.setIfInBounds_toArray, List.set_cons_zero, List.set_cons_succ]
      refine wpAnyL_one (j := 6) (by kernel_rfl) rfl (by rfl) (fun K hK => ?_)
      go_simp
      refine (HCP.out _ (HOK1.out.2.later HB2.out)).mono ?_
      rintro e w3 ⟨bF, dF, bL, dL, rfl, hok3, hb, hfar3⟩
      have HS2 := HS1.next hb
      have HB3 := Lib.hid hb
      have HOK3 := Lib.hid hok3
      have HFR3 := Lib.hid hfar3
      clear hb hok3 hfar3
      refine hK _ _ (fun _ => HS2) ?_
      clear hK K
      try simp only [Act.put, List.setIfInBounds_toArray, List.set_cons_zero, List.set_cons_succ]
      refine wpAnyL_take (i := 7) (some 20) (v := .agg #[.string ⟨key.toArray⟩, .int .i64 k, .string ⟨s.toArray⟩, .slice bF fs.length dF, .slice bL ws.length dL, .int .i64 x]) rfl rfl (by kernel_rfl) (by kernel_rfl) (by kernel_rfl) (by kernel_rfl) (fun _ _ _ h => h) (by rfl) (fun W hS => ?_) HS2 ?_
      · go_simp
      try simp only [Act.put, List.setIfInBounds_toArray, List.set_cons_zero, List.set_cons_succ]
      refine wpAnyL_one (j := 8) (by kernel_rfl) rfl (by rfl) (fun K hK => ?_)
      refine oper_wp_val (v := .slice (some ⟨w3.heap.size, 0, none⟩) 1 1) (w' := w3.alloc (.cells #[.string ⟨key.toArray⟩, .int .i64 k, .string ⟨s.toArray⟩, .slice bF fs.length dF, .slice bL ws.length dL, .int .i64 x] 65)) (by go_simp) ?_
      have HS3 := HS2.alloc (.cells #[.string ⟨key.toArray⟩, .int .i64 k, .string ⟨s.toArray⟩, .slice bF fs.length dF, .slice bL ws.length dL, .int .i64 x] 65)
      refine hK _ _ (fun _ => HS3) ?_
      clear hK K
      try simp only [Act.put, List.setIfInBounds_toArray, List.set_cons_zero, List.set_cons_succ]
      have HR3 := Lib.hid ((HR1.out.later HB2.out).later HB3.out)
      have hz3 := HR3.out.2.1.size
      refine wpAnyL_one (j := 9) (by kernel_rfl) rfl (by rfl) (fun K hK => ?_)
      refine wp_append_lies _ (.tmp 13) (.tmp 21) 27 rfl w0.heap.size 65 iE _ 6 96 Try.underlying27 hiE hiE0 hiE1 hiE2 rfl (by decide) u0 out.length ((out.map Lp.cs).flatten) rfl (HR3.out.1.alloc _) ⟨w3.heap.size, 0, none⟩ 1 1 [.string ⟨key.toArray⟩, .int .i64 k, .string ⟨s.toArray⟩, .slice bF fs.length dF, .slice bL ws.length dL, .int .i64 x] rfl rfl (row_news w3 _ rfl _ _) (Lp.cs_one ⟨key, k, s, bF, fs, dF, bL, ws, dL, x⟩) (by decide) (by unfold maxLen; omega) (by omega) (by simp; omega) _ rfl ?_
      intro g cp w4 hown hgrow hat hlt3
      have HS4 := HS3.grown (v := u0) hgrow (Nw.refl _ _)
      have HR4 := Lib.hid (RowQ.append (e := ⟨key, k, s, bF, fs, dF, bL, ws, dL, x⟩) HR3.out hown hgrow hat ⟨HOK1.out.1, HOK3.out⟩ (HFR3.out _ fun g e => Nat.lt_of_lt_of_le (Nat.lt_trans (HRO.out.lt g e).2 hxb) HB2.out.size))
      have HK4 := Lib.hid (((((HKP.out.next HB1.out).next HB2.out).next HB3.out).alloc _).grown hgrow HNW.out)
      have HN4 := Lib.hid (HNW.out.trans (nw_at (n := out.length + 1) (cap := cp) hat (Nat.le_refl _)) (Nat.le_trans (((HKP.out.next HB1.out).next HB2.out).next HB3.out).sz (by simp)))
      refine hK _ _ (fun _ => HS4) ?_
      clear hK K hown hgrow hat
      try simp only [Act.put, List.setIfInBounds_toArray, List.set_cons_zero, List.set_cons_succ]
      refine wpAnyL_one (j := 10) (by kernel_rfl) rfl (by rfl) (fun K hK => ?_)
      go_simp
      refine hK _ _ (fun _ => HS4) ?_
      clear hK K
      try simp only [Act.put, List.setIfInBounds_toArray, List.set_cons_zero, List.set_cons_succ]
      refine wpAnyL_done (by kernel_rfl) ?_ _
      go_wp2
      go_roundw
      case rel => exact ⟨n + 1, by omega, by go_num, Lib.hid ⟨_, HR4.out, by rw [List.map_append, HOP.out, HX.out, List.append_assoc]; rfl, by simp; omega, HK4.out, HN4.out, fun m hm => by
        rcases List.mem_append.1 hm with hm | hm
        · exact HNX.out m hm
        · rw [List.mem_singleton.1 hm]
          exact .inr fun g hg => HFR3.out _ fun g2 e => by
            cases e
            exact Nat.lt_of_lt_of_le hg ((HKP.out.next HB1.out).next HB2.out).sz⟩⟩
      case measure => simp [intOf]; omega
    · obtain rfl : n = ms.length := by omega
      have k1 : ¬ (ms.length : Int) < (ms.length : Int) := by omega
      rw [List.take_length] at HI
      obtain ⟨out, hro, hop, hol, hkp, hnw, hnx⟩ := HI.out
      go_wp2
      go_ret
      exact ⟨_, out, rfl, hro, hop, hkp, hnw, hnx⟩
set_option maxRecDepth 100000 in
set_option maxHeartbeats 4000000 in
theorem spall_new (a : Option Addr) (cap : Nat) (ps : List Lp) (w : World) (hP : Prs w a cap ps) (hn : ps.length ≤ 100000) (hsm : ∀ p ∈ ps, p.p.Sm) :
    Calls Try.prog 40 #[.slice a ps.length cap] w (EfNew (Db.all (ps.map Lp.p)) w) := by
  obtain ⟨iE, hiE, hiE0, hiE1, hiE2⟩ := info_parts infoE
  have HW := Lib.hid (with_new w (.slice none 0 0) [] a cap ps w (RowQ.none (Below.refl _ _)) hP (fun _ b off _ e => by cases e) (fun m hm => (hP.2 m hm).2.farO fun g e => by cases e) hsm (by simp) (by omega))
  clear hP hsm
  go_enter Try.func40, Try.ntmps40
  go_wp2_with fail
  refine HW.out.mono ?_
  rintro e w1 ⟨v, out, rfl, hro, hop, hkp, -, hnx⟩
  have HNX : Hid (∀ m ∈ out, ∀ g, g < w.heap.size → m.it.Far (some g)) := Lib.hid fun m hm => (hnx m hm).resolve_left (by simp)
  clear hnx
  obtain ⟨a1, c1, rfl, hp1, hn1⟩ := hro.prs
  have hol : out.length = ps.length := by have := congrArg List.length hop; simpa using this
  have HP := Lib.hid hp1
  have HB := Lib.hid hro.2.1
  have HO : Hid (out.map Lp.p = ps.map Lp.p) := Lib.hid (by rw [hop]; simp)
  have hnI : (out.length : Int) ≤ 100000 := by omega
  clear hro hop hkp hp1 hn1 HW
  go_wp2_with fail
  go_loopw [3, 5, 9] (fun u _ i wr => ∃ n : Nat, n ≤ out.length ∧ i = .int .i64 n ∧ Hid (RowE w1 u ((out.take n).map setE) wr)) (fun _ _ i _ => out.length - (intOf i).toNat)
  case atStart => exact ⟨0, Nat.zero_le _, rfl, Lib.hid (RowE.none (Below.refl _ _))⟩
  case round =>
    obtain ⟨n, hn', rfl, HR⟩ := hrel
    have hll : ((out.take n).map setE).length ≤ 100000 := by rw [List.length_map, List.length_take]; omega
    by_cases hlt : n < out.length
    · obtain ⟨b, off, rfl, hb, hc⟩ := HP.out.get (by omega)
      have hq0 := (hc n hlt).later hb HR.out.2.1
      have hok := HP.out.at hlt
      have HX := Lib.hid (show (out.take (n + 1)).map setE = (out.take n).map setE ++ [setE (out.getD n Lp.zero)] by rw [take_succ_getD (d := Lp.zero) hlt, List.map_append]; rfl)
      obtain ⟨⟨key, k, s, aF, fs, cF, aL, ws, cL, x⟩, hq⟩ : ∃ q, out.getD n Lp.zero = q := ⟨_, rfl⟩
      obtain ⟨es, hes⟩ : ∃ es, (out.take n).map setE = es := ⟨_, rfl⟩
      rw [hq] at hq0 HX hok
      rw [hes] at HX HR hll
      obtain ⟨q0, q1, q2, q3, q4, q5⟩ := hq0
      simp only at q0 q1 q2 q3 q4 q5
      have HOK := Lib.hid hok
      have k0 : (0 : Int) ≤ (n : Int) := by omega
      have k1 : (n : Int) < (out.length : Int) := by omega
      have hzr := HR.out.2.1.size
      clear hc hok hq hes
      go_upto_region 5 with (fail)
      obtain ⟨w2, hw2⟩ : ∃ w2, wr.alloc (.cells #[.string ⟨key.toArray⟩, .int .i64 k, .string ⟨s.toArray⟩, .slice aF fs.length cF, .slice aL ws.length cL, .int .i64 x] 65) = w2 := ⟨_, rfl⟩
      have hb2 : Below wr.heap.size wr w2 := by rw [← hw2]; exact (Below.refl _ wr).alloc (Nat.le_refl _) _
      obtain ⟨p0, p1, p2, p3, p4, p5⟩ : PAt w2 wr.heap.size 0 ⟨key, k, s, aF, fs, cF, aL, ws, cL, x⟩ := by rw [← hw2]; exact pairBox wr ⟨key, k, s, aF, fs, cF, aL, ws, cL, x⟩
      rw [hw2]
      have HR2 := Lib.hid (HR.out.late hb2)
      have hz2 := hb2.size
      simp only [Nat.zero_add] at p0 p1 p2 p3 p4 p5
      clear hw2 hb2 q0 q1 q2 q3 q4 q5
      go_wp2_with (at_builtin; refine wpList_append_own _ rfl (.tmp 13) (.tmp 19) 24 rfl w1.heap.size 61 iE _ 7 104 Try.underlying24 hiE hiE0 hiE1 hiE2 rfl (by decide) _ _ _ rfl (HR2.out.1.alloc _) ⟨w2.heap.size, 0, none⟩ 1 1 [.string ⟨key.toArray⟩, .bool false, .int .i64 k, .string ⟨s.toArray⟩, .slice aF fs.length cF, .slice aL ws.length cL, .int .i64 x] rfl rfl (row_news w2 _ rfl _ _) (Le.cs_one ⟨key, false, k, s, aF, fs, cF, aL, ws, cL, x⟩) (by unfold maxLen; omega) (by omega) (by simp; omega) ?_; intro v1 w3 hown hgrow hnn; have HR3 := Lib.hid (RowE.append (e := ⟨key, false, k, s, aF, fs, cF, aL, ws, cL, x⟩) HR2.out hown hgrow HOK.out); clear hown hgrow hnn)
      go_roundw
      case rel => exact ⟨n + 1, by omega, by go_num, Lib.hid (by rw [HX.out]; exact HR3.out)⟩
      case measure => simp [intOf]; omega
    · obtain rfl : n = out.length := by omega
      have k1 : ¬ (out.length : Int) < (out.length : Int) := by omega
      rw [List.take_length] at HR
      have hr := HR.out
      obtain ⟨a2, c2, hv, he, hn2⟩ := hr.efs
      have hfin : EfNew (Db.all (ps.map Lp.p)) w (.returned (.slice a2 (out.map setE).length c2)) wr := ⟨a2, c2, _, rfl, he, hn2, by
        rw [← HO.out]
        unfold Db.all
        rw [List.map_map, List.map_map]
        rfl, HB.out.trans (hr.2.1.mono HB.out.size), fun e he g hg => by
          obtain ⟨m, hm, rfl⟩ := List.mem_map.1 he
          exact HNX.out m hm g hg⟩
      rw [← hv] at hfin
      have HF := Lib.hid hfin
      clear hr hv he hfin
      go_wp2_with fail
      go_ret
      exact HF.out
end Go.Proofs.Ytihleddhjmejoaa
