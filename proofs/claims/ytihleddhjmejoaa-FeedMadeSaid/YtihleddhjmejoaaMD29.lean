/- The contract of the program's with: pairs behind a space, in memory of their own (11.1). The contract of the program's Apply (11.1). -/
import Derived.Test.YtihleddhjmejoaaMD28
import Derived.Test.YtihleddhjmejoaaMD08
import Derived.Test.YtihleddhjmejoaaMD27
import Derived.Test.YtihleddhjmejoaaMD06
import Derived.Deep.AppendLies
import Derived.Test.YtihleddhjmejoaaMD24
import Derived.Carry
import Derived.OwnWalk
import Derived.Deep.Cut
import Derived.Deep.CutRange
import Derived.Deep.DeepCutAuto
namespace Go.Proofs.Ytihleddhjmejoaa
open Go.RowKit Go.Shelf
attribute [local go_sem] Oper.semAt_some
set_option linter.unusedVariables false
set_option linter.unusedSimpArgs false

/-- what with tells: the row, its pairs, all else is kept. -/
def WithOut (w0 : World) (v0 : Value) (qs : List Db.P) (w : World) (e : Ending) (W : World) : Prop :=
  ∃ v out, e = .returned v ∧ RowQ w0 v out W ∧ out.map Lp.p = qs ∧ Kp v0 w W ∧ Nw v0 v w
/-- the loop's. -/
def WithInv (w0 : World) (v0 : Value) (qs : List Db.P) (w : World) (v : Value) (n : Nat) (W : World) : Prop :=
  ∃ out, RowQ w0 v out W ∧ out.map Lp.p = qs ∧ out.length ≤ n ∧ Kp v0 w W ∧ Nw v0 v w

set_option maxRecDepth 100000 in
set_option maxHeartbeats 8000000 in
theorem with_any (w0 : World) (v0 : Value) (os : List Lp) (a : Option Addr) (cap : Nat) (ms : List Lp) (w : World) (hR : RowQ w0 v0 os w) (hM : Prs w a cap ms) (ha : ms ≠ [] → ∀ b off, a = some ⟨b, off, none⟩ → some b ≠ v0.ownBlock) (hF : ∀ m ∈ ms, m.it.Far v0.ownBlock)
    (hsm : ∀ m ∈ ms, m.p.Sm) (hn : os.length ≤ 1000000) (hm : ms.length ≤ 1000000) :
    Calls Try.prog 51 #[v0, .slice a ms.length cap] w (WithOut w0 v0 (os.map Lp.p ++ ms.map Lp.p) w) := by
  obtain ⟨iE, hiE, hiE0, hiE1, hiE2⟩ := info_parts infoP
  have HM := Lib.hid hM
  have HA := Lib.hid ha
  have HF := Lib.hid hF
  have HSM := Lib.hid hsm
  have HR0 := Lib.hid hR
  have hnI : (ms.length : Int) ≤ 1000000 := by omega
  clear hM ha hF hsm hR
  go_enter Try.func51, Try.ntmps51
  go_wp2
  go_loopw [0, 6, 9] (fun u _ i wr => ∃ n : Nat, n ≤ ms.length ∧ i = .int .i64 n ∧ Hid (WithInv w0 v0 (os.map Lp.p ++ (ms.take n).map Lp.p) w u (os.length + n) wr)) (fun _ _ i _ => ms.length - (intOf i).toNat)
  case atStart => exact ⟨0, Nat.zero_le _, rfl, Lib.hid ⟨os, HR0.out, by simp, Nat.le_refl _, Kp.refl _ _, Nw.refl _ _⟩⟩
  case round =>
    obtain ⟨n, hn', rfl, HI⟩ := hrel
    by_cases hlt : n < ms.length
    · obtain ⟨out, hro, hop, hol, hkp, hnw⟩ := HI.out
      obtain ⟨b, off, rfl, hb, hc⟩ := HM.out.get (by omega)
      have hne := HA.out (by rintro rfl; simp at hlt) b off rfl
      have hq0 := (hc n hlt).keep (hkp.block hb hne)
      have hmem : ms.getD n Lp.zero ∈ ms := by rw [getD_eq hlt]; exact List.getElem_mem hlt
      have hok0 := HM.out.at hlt
      have hok : (ms.getD n Lp.zero).Ok wr := ⟨hok0.1, hok0.2.kept (HF.out _ hmem) hkp⟩
      have hsm := HSM.out _ hmem
      have HX := Lib.hid (show (ms.take (n + 1)).map Lp.p = (ms.take n).map Lp.p ++ [(ms.getD n Lp.zero).p] by rw [take_succ_getD (d := Lp.zero) hlt, List.map_append]; rfl)
      have HRO := Lib.hid hro
      have HOP := Lib.hid hop
      have HKP := Lib.hid hkp
      have HNW := Lib.hid hnw
      have hzr := hro.2.1.size
      have hbr : b < wr.heap.size := Nat.lt_of_lt_of_le hb hkp.sz
      clear hc hne hmem hok0 HI hro hop hkp hnw
      obtain ⟨⟨key, k, s, aF, fs, cF, aL, ws, cL, x⟩, hq⟩ : ∃ q, ms.getD n Lp.zero = q := ⟨_, rfl⟩
      rw [hq] at hq0 HX hok hsm
      clear hq
      obtain ⟨q0, q1, q2, q3, q4, q5⟩ := hq0
      have HOK := Lib.hid hok
      have HSM1 := Lib.hid hsm
      have hkl : key.length ≤ 1000000 := hsm.1
      clear hok hsm
      have k0 : (0 : Int) ≤ (n : Int) := by omega
      have k1 : (n : Int) < (ms.length : Int) := by omega
      have HCL := Lib.hid (fun W => clone_any key W (by omega))
      have HCP := Lib.hid (fun W h => copy_li k x s aF fs cF aL ws cL W h HSM1.out.2)
      go_upto_region 4 with (fail)
      obtain ⟨w1, hw1⟩ : ∃ w1, wr.alloc (.cells #[.string ⟨key.toArray⟩, .int .i64 k, .string ⟨s.toArray⟩, .slice aF fs.length cF, .slice aL ws.length cL, .int .i64 x] 65) = w1 := ⟨_, rfl⟩
      have hx1 := World.alloc_heap_new wr (.cells #[.string ⟨key.toArray⟩, .int .i64 k, .string ⟨s.toArray⟩, .slice aF fs.length cF, .slice aL ws.length cL, .int .i64 x] 65)
      have hb1 : Below wr.heap.size wr w1 := by rw [← hw1]; exact (Below.refl _ wr).alloc (Nat.le_refl _) _
      rw [hw1] at hx1 ⊢
      have hxb : wr.heap.size < w1.heap.size := (Array.getElem?_eq_some_iff.1 hx1).1
      obtain ⟨p0, p1, p2, p3, p4, p5⟩ : PAt w1 wr.heap.size 0 ⟨key, k, s, aF, fs, cF, aL, ws, cL, x⟩ := by
        unfold PAt
        simp [World.cell?, hx1]
      have HB1 := Lib.hid hb1
      have HOK1 : Hid ((⟨key, k, s, aF, fs, cF, aL, ws, cL, x⟩ : Lp).Ok w1) := Lib.hid ⟨HOK.out.1, HOK.out.2.later hb1⟩
      have HR1 := Lib.hid (HRO.out.later hb1)
      have hxn : some wr.heap.size ≠ u0.ownBlock := fun e => by
        have := (HRO.out.lt _ e.symm).2
        omega
      clear hw1 hx1 hb1 q0 q1 q2 q3 q4 q5 HOK
      have HS0 : Kp u0 w1 w1.drew := (Kp.refl u0 w1).drew
      refine wp_region_L (S := fun W => Kp u0 w1 W) (f := 11) (by kernel_rfl) ?_
      refine wpAnyL_take (i := 0) (some 13) (v := u0) rfl rfl (by kernel_rfl) (by kernel_rfl) (by kernel_rfl) (by kernel_rfl) (fun _ _ _ h => h) (by rfl) (fun W hS => ?_) HS0 ?_
      · go_simp
      try simp only [Act.put, List.setIfInBounds_toArray, List.set_cons_zero, List.set_cons_succ]
      refine wpAnyL_take (i := 1) (some 14) (v := .pointer (some ⟨wr.heap.size, 0, none⟩)) rfl rfl (by kernel_rfl) (by kernel_rfl) (by kernel_rfl) (by kernel_rfl) (fun _ _ _ h => h) (by rfl) (fun W hS => ?_) HS0 ?_
      · go_simp
      try simp only [Act.put, List.setIfInBounds_toArray, List.set_cons_zero, List.set_cons_succ]
      refine wpAnyL_take (i := 2) (some 15) (v := .string ⟨key.toArray⟩) rfl rfl (by kernel_rfl) (by kernel_rfl) (by kernel_rfl) (by kernel_rfl) (fun _ _ _ h => h) (by rfl) (fun W hS => ?_) HS0 ?_
      · have m0 := (hS.cell (p := ⟨wr.heap.size, 0, none⟩) hxb hxn).trans p0
        go_simp
      try simp only [Act.put, List.setIfInBounds_toArray, List.set_cons_zero, List.set_cons_succ]
      refine wpAnyL_take (i := 4) (some 17) (v := .pointer (some ⟨wr.heap.size, 1, none⟩)) rfl rfl (by kernel_rfl) (by kernel_rfl) (by kernel_rfl) (by kernel_rfl) (fun _ _ _ h => h) (by rfl) (fun W hS => ?_) HS0 ?_
      · go_simp
      try simp only [Act.put, List.setIfInBounds_toArray, List.set_cons_zero, List.set_cons_succ]
      refine wpAnyL_take (i := 5) (some 18) (v := .agg #[.int .i64 k, .string ⟨s.toArray⟩, .slice aF fs.length cF, .slice aL ws.length cL, .int .i64 x]) rfl rfl (by kernel_rfl) (by kernel_rfl) (by kernel_rfl) (by kernel_rfl) (fun _ _ _ h => h) (by rfl) (fun W hS => ?_) HS0 ?_
      · have m0 := (hS.cell (p := ⟨wr.heap.size, 1, none⟩) hxb hxn).trans p1
        have m1 := (hS.cell (p := ⟨wr.heap.size, 2, none⟩) hxb hxn).trans p2
        have m2 := (hS.cell (p := ⟨wr.heap.size, 3, none⟩) hxb hxn).trans p3
        have m3 := (hS.cell (p := ⟨wr.heap.size, 4, none⟩) hxb hxn).trans p4
        have m4 := (hS.cell (p := ⟨wr.heap.size, 5, none⟩) hxb hxn).trans p5
        go_simp
      try simp only [Act.put, List.setIfInBounds_toArray, List.set_cons_zero, List.set_cons_succ]
      refine wpAnyL_one (j := 3) (by kernel_rfl) rfl (by rfl) (fun K hK => ?_)
      go_simp
      refine (HCL.out _).mono ?_
      rintro e w2 ⟨rfl, hb⟩
      have HS1 := HS0.next hb
      have HB2 := Lib.hid ((Below.refl _ w1).drew.trans hb)
      clear hb
      refine hK _ _ (fun _ => HS1) ?_
      clear hK K
      try simp only [Act.put, List.setIfInBounds_toArray, List.set_cons_zero, List.set_cons_succ]
      refine wpAnyL_one (j := 6) (by kernel_rfl) rfl (by rfl) (fun K hK => ?_)
      go_simp
      refine (HCP.out _ (HOK1.out.2.later HB2.out)).mono ?_
      rintro e w3 ⟨bF, dF, bL, dL, rfl, hok3, hb, hfar3⟩
      have HS2 := HS1.next hb
      have HB3 := Lib.hid hb
      have HOK3 := Lib.hid hok3
      have HFR3 := Lib.hid hfar3
      clear hb hok3 hfar3
      refine hK _ _ (fun _ => HS2) ?_
      clear hK K
      try simp only [Act.put, List.setIfInBounds_toArray, List.set_cons_zero, List.set_cons_succ]
      refine wpAnyL_take (i := 7) (some 20) (v := .agg #[.string ⟨key.toArray⟩, .int .i64 k, .string ⟨s.toArray⟩, .slice bF fs.length dF, .slice bL ws.length dL, .int .i64 x]) rfl rfl (by kernel_rfl) (by kernel_rfl) (by kernel_rfl) (by kernel_rfl) (fun _ _ _ h => h) (by rfl) (fun W hS => ?_) HS2 ?_
      · go_simp
      try simp only [Act.put, List.setIfInBounds_toArray, List.set_cons_zero, List.set_cons_succ]
      refine wpAnyL_one (j := 8) (by kernel_rfl) rfl (by rfl) (fun K hK => ?_)
      refine oper_wp_val (v := .slice (some ⟨w3.heap.size, 0, none⟩) 1 1) (w' := w3.alloc (.cells #[.string ⟨key.toArray⟩, .int .i64 k, .string ⟨s.toArray⟩, .slice bF fs.length dF, .slice bL ws.length dL, .int .i64 x] 65)) (by go_simp) ?_
      have HS3 := HS2.alloc (.cells #[.string ⟨key.toArray⟩, .int .i64 k, .string ⟨s.toArray⟩, .slice bF fs.length dF, .slice bL ws.length dL, .int .i64 x] 65)
      refine hK _ _ (fun _ => HS3) ?_
      clear hK K
      try simp only [Act.put, List.setIfInBounds_toArray, List.set_cons_zero, List.set_cons_succ]
      have HR3 := Lib.hid ((HR1.out.later HB2.out).later HB3.out)
      have hz3 := HR3.out.2.1.size
      refine wpAnyL_one (j := 9) (by kernel_rfl) rfl (by rfl) (fun K hK => ?_)
      refine wp_append_lies _ (.tmp 13) (.tmp 21) 27 rfl w0.heap.size 65 iE _ 6 96 Try.underlying27 hiE hiE0 hiE1 hiE2 rfl (by decide) u0 out.length ((out.map Lp.cs).flatten) rfl (HR3.out.1.alloc _) ⟨w3.heap.size, 0, none⟩ 1 1 [.string ⟨key.toArray⟩, .int .i64 k, .string ⟨s.toArray⟩, .slice bF fs.length dF, .slice bL ws.length dL, .int .i64 x] rfl rfl (row_news w3 _ rfl _ _) (Lp.cs_one ⟨key, k, s, bF, fs, dF, bL, ws, dL, x⟩) (by decide) (by unfold maxLen; omega) (by omega) (by simp; omega) _ rfl ?_
      intro g cp w4 hown hgrow hat hlt3
      have HS4 := HS3.grown (v := u0) hgrow (Nw.refl _ _)
      have HR4 := Lib.hid (RowQ.append (e := ⟨key, k, s, bF, fs, dF, bL, ws, dL, x⟩) HR3.out hown hgrow hat ⟨HOK1.out.1, HOK3.out⟩ (HFR3.out _ fun g e => Nat.lt_of_lt_of_le (Nat.lt_trans (HRO.out.lt g e).2 hxb) HB2.out.size))
      have HK4 := Lib.hid (((((HKP.out.next HB1.out).next HB2.out).next HB3.out).alloc _).grown hgrow HNW.out)
      have HN4 := Lib.hid (HNW.out.trans (nw_at (n := out.length + 1) (cap := cp) hat (Nat.le_refl _)) (Nat.le_trans (((HKP.out.next HB1.out).next HB2.out).next HB3.out).sz (by simp)))
      refine hK _ _ (fun _ => HS4) ?_
      clear hK K hown hgrow hat
      try simp only [Act.put, List.setIfInBounds_toArray, List.set_cons_zero, List.set_cons_succ]
      refine wpAnyL_one (j := 10) (by kernel_rfl) rfl (by rfl) (fun K hK => ?_)
      go_simp
      refine hK _ _ (fun _ => HS4) ?_
      clear hK K
      try simp only [Act.put, List.setIfInBounds_toArray, List.set_cons_zero, List.set_cons_succ]
      refine wpAnyL_done (by kernel_rfl) ?_ _
      go_wp2
      go_roundw
      case rel => exact ⟨n + 1, by omega, by go_num, Lib.hid ⟨_, HR4.out, by rw [List.map_append, HOP.out, HX.out, List.append_assoc]; rfl, by simp; omega, HK4.out, HN4.out⟩⟩
      case measure => simp [intOf]; omega
    · obtain rfl : n = ms.length := by omega
      have k1 : ¬ (ms.length : Int) < (ms.length : Int) := by omega
      rw [List.take_length] at HI
      obtain ⟨out, hro, hop, hol, hkp, hnw⟩ := HI.out
      go_wp2
      go_ret
      exact ⟨_, out, rfl, hro, hop, hkp, hnw⟩
end Go.Proofs.Ytihleddhjmejoaa
namespace Go.Proofs.Ytihleddhjmejoaa
open Go.RowKit Go.Shelf
attribute [local go_sem] Oper.semAt_some
set_option linter.unusedVariables false
set_option linter.unusedSimpArgs false

theorem Prs.take {w : World} {a : Option Addr} {cap : Nat} {ps : List Lp} (h : Prs w a cap ps) (k : Nat) : Prs w a cap (ps.take k) := by
  obtain ⟨⟨h0, h1, h2⟩, h3⟩ := h
  refine ⟨⟨?_, h1, ?_⟩, fun p hp => h3 p (List.mem_of_mem_take hp)⟩
  · rw [List.length_map] at h0 ⊢
    rw [List.length_take]
    omega
  · rcases h2 with h2 | ⟨b, off, ha, hlt, hc⟩
    · have : ps = [] := by simpa using h2
      exact .inl (by rw [this]; simp)
    · refine .inr ⟨b, off, ha, hlt, fun j hj i hi => ?_⟩
      have hj' : j < k ∧ j < ps.length := by rw [List.length_map, List.length_take] at hj; omega
      rw [hc j (by simpa using hj'.2) i hi, List.map_take]
      congr 1
      simp [List.getD, List.getElem?_take, hj'.1]
theorem Prs.drop {w : World} {ad : Addr} {cap : Nat} {ps : List Lp} (h : Prs w (some ad) cap ps) {k : Nat} (hk : k ≤ ps.length) : Prs w (some (ad.add (k * 6))) (cap - k) (ps.drop k) := by
  obtain ⟨⟨h0, h1, h2⟩, h3⟩ := h
  refine ⟨⟨?_, by omega, ?_⟩, fun p hp => h3 p (List.mem_of_mem_drop hp)⟩
  · rw [List.length_map] at h0 ⊢
    rw [List.length_drop]
    omega
  · rcases h2 with h2 | ⟨b, off, ha, hlt, hc⟩
    · have : ps = [] := by simpa using h2
      exact .inl (by rw [this]; simp)
    · injection ha with ha
      subst ha
      refine .inr ⟨b, off + k * 6, by rw [Addr.add_flat], hlt, fun j hj i hi => ?_⟩
      have hj' : k + j < ps.length := by rw [List.length_map, List.length_drop] at hj; omega
      have := hc (k + j) (by simpa using hj') i hi
      rw [show off + k * 6 + j * 6 + i = off + (k + j) * 6 + i by rw [Nat.add_mul]; omega, this, List.map_drop]
      congr 1
      simp [List.getD, List.getElem?_drop]
theorem Prs.nul {w : World} (a : Option Addr) (cap : Nat) (hc : cap ≤ 9223372036854775807) : Prs w a cap [] := ⟨⟨Nat.zero_le _, hc, .inl rfl⟩, by simp⟩
theorem with_at (w0 : World) (v0 : Value) (os : List Lp) (a : Option Addr) (cap n : Nat) (ms : List Lp) (w : World) (hnl : ms.length = n) (hR : RowQ w0 v0 os w) (hM : Prs w a cap ms) (ha : ms ≠ [] → ∀ b off, a = some ⟨b, off, none⟩ → some b ≠ v0.ownBlock) (hF : ∀ m ∈ ms, m.it.Far v0.ownBlock)
    (hsm : ∀ m ∈ ms, m.p.Sm) (hn : os.length ≤ 1000000) (hm : ms.length ≤ 1000000) :
    Calls Try.prog 51 #[v0, .slice a n cap] w (WithOut w0 v0 (os.map Lp.p ++ ms.map Lp.p) w) := by
  subst hnl
  exact with_any w0 v0 os a cap ms w hR hM ha hF hsm hn hm

theorem Li.Ok.farO {w : World} {p : Li} (h : p.Ok w) {o : Option Nat} (ho : ∀ g, o = some g → w.heap.size ≤ g) : p.Far o := by
  cases o with
  | none => exact ⟨fun _ g k _ e => (by cases e), fun _ g k _ e => (by cases e)⟩
  | some g => exact h.far (ho g rfl)
/-- what Apply tells. -/
def ApplyOut (qs : List Db.P) (w : World) (e : Ending) (W : World) : Prop := ∃ v out, e = .returned v ∧ RowQ w v out W ∧ out.map Lp.p = qs
/-- loop 1. -/
def Ap1 (w : World) (es : List Le) (n : Nat) (W : World) : Prop := MapIn W w.heap.size n (mapR (es.take n).reverse) ∧ Below w.heap.size w W
/-- loop 2: what is done, what is left. -/
def Ap2 (w W2 : World) (db : List Db.P) (r : List Le) (ks : List (List UInt8)) (n : Nat) (u : Value) (ar : Option Addr) (cr : Nat) (rs : List Lp) (W : World) : Prop :=
  ∃ out, RowQ w u out W ∧ StepP db r ks n (out.map Lp.p) rs ∧ Prs w ar cr rs ∧ (ar = none → cr = 0) ∧ rs.length + out.length ≤ db.length + n ∧ (∀ p ∈ rs, p.p.Sm) ∧ Below W2.heap.size W2 W ∧ ∀ g, u.ownBlock = some g → W2.heap.size ≤ g

theorem prs_one {w : World} {b : Nat} {p : Lp} (h : w.heap[b]? = some (.cells #[.string ⟨p.key.toArray⟩, .int .i64 p.it.k, .string ⟨p.it.s.toArray⟩, .slice p.it.aF p.it.fs.length p.it.cF, .slice p.it.aL p.it.ws.length p.it.cL, .int .i64 p.it.x] 65 (0, 0))) (hok : p.Ok w) : Prs w (some ⟨b, 0, none⟩) 1 [p] := by
  refine ⟨⟨by simp, by decide, .inr ⟨b, 0, rfl, (Array.getElem?_eq_some_iff.1 h).1, fun k hk j hj => ?_⟩⟩, fun q hq => by rw [List.mem_singleton.1 hq]; exact hok⟩
  obtain rfl : k = 0 := by simp at hk; omega
  have hc : ∀ o, w.cell? ⟨b, o, none⟩ = (Lp.cs p)[o]? := fun o => by
    simp [World.cell?, h, Lp.cs, Li.cs]
  simp [hc]
theorem HB5out {w W W' : World} (h : Below w.heap.size w W) (h2 : Below W.heap.size W W') : Below w.heap.size w W' := h.trans (h2.mono h.size)
/-- behind the pairs ahead of the key. -/
def ApM (w W2 : World) (qs : List Db.P) (u : Value) (W : World) : Prop := ∃ out, RowQ w u out W ∧ out.map Lp.p = qs ∧ Below W2.heap.size W2 W ∧ ∀ g, u.ownBlock = some g → W2.heap.size ≤ g
/-- what is left. -/
def ApR (w : World) (rs : List Lp) (rv : Value) : Prop := ∃ ar cr, rv = .slice ar rs.length cr ∧ Prs w ar cr rs ∧ (ar = none → cr = 0)

theorem ApR.nul {w : World} {rs : List Lp} (h : rs = []) (ar : Option Addr) (n : Nat) (hn : n = rs.length) : ApR w rs (.slice ar n 0) := by
  subst h hn
  exact ⟨ar, 0, rfl, Prs.nul ar 0 (by decide), fun _ => rfl⟩
theorem ApR.end_ {w : World} {rs : List Lp} {ad : Addr} {cr k : Nat} (h : Prs w (some ad) cr rs) (hk : k ≤ rs.length) (hc : cr - k = 0) : ApR w (rs.drop k) (.slice (some ad) (rs.length - k) 0) := by
  have := h.len
  exact ApR.nul (List.drop_eq_nil_of_le (by omega)) _ _ (by rw [List.length_drop])
theorem ApR.drop {w : World} {rs : List Lp} {ad : Addr} {cr k : Nat} (h : Prs w (some ad) cr rs) (hk : k ≤ rs.length) : ApR w (rs.drop k) (.slice (some (ad.add (k * 6))) (rs.length - k) (cr - k)) :=
  ⟨_, _, by rw [List.length_drop], h.drop hk, fun e => by cases e⟩
theorem Ap2.next {w W2 W : World} {db Y : List Db.P} {r : List Le} {ks : List (List UInt8)} {n : Nat} {u : Value} {ar : Option Addr} {cr : Nat} {rs2 : List Lp} (hst : StepP db r ks (n + 1) Y rs2) (hm : ApM w W2 Y u W) (hR : Prs w ar cr rs2) (hn : ar = none → cr = 0)
    (hsm : ∀ p ∈ rs2, p.p.Sm) (hlen : rs2.length + Y.length ≤ db.length + (n + 1)) : Ap2 w W2 db r ks (n + 1) u ar cr rs2 W := by
  obtain ⟨out, h1, rfl, h3, h4⟩ := hm
  rw [List.length_map] at hlen
  exact ⟨out, h1, hst, hR, hn, hlen, hsm, h3, h4⟩

set_option maxRecDepth 100000 in
set_option maxHeartbeats 8000000 in
theorem spapply_any (a : Option Addr) (cap : Nat) (ps : List Lp) (b0 : Option Addr) (cb : Nat) (es : List Le) (w : World) (hP : Prs w a cap ps) (hE : Efs w b0 cb es) (hn : ps.length ≤ 100000) (hm : es.length ≤ 100000) (ha : a = none → cap = 0)
    (hu : AscL ps) (hsm : ∀ p ∈ ps, p.p.Sm) (hse : ∀ e ∈ es, e.e.Sm) :
    Calls Try.prog 31 #[.slice a ps.length cap, .slice b0 es.length cb] w (ApplyOut (Db.app (ps.map Lp.p) (es.map Le.e)) w) := by
  have HP := Lib.hid hP
  have HE := Lib.hid hE
  have HU := Lib.hid hu
  have HSM := Lib.hid hsm
  have HSE := Lib.hid hse
  have HA := Lib.hid ha
  have hmI : (es.length : Int) ≤ 100000 := by omega
  have hM0 : Ap1 w es 0 (w.alloc (.map #[] 0)) := ⟨World.ownsMap_made w _ _ _, (Below.refl _ w).alloc (Nat.le_refl _) _⟩
  have HM0 := Lib.hid hM0
  clear hP hE hu hsm hse ha hM0
  have hmm := @run_makeMap Try.prog
  go_enter Try.func31, Try.ntmps31
  go_wp2
  go_loopw [7, 18] (fun _ i wr => ∃ n : Nat, n ≤ es.length ∧ i = .int .i64 n ∧ Hid (Ap1 w es n wr)) (fun _ i _ => es.length - (intOf i).toNat)
  case atStart => exact ⟨0, Nat.zero_le _, rfl, HM0⟩
  case round =>
    obtain ⟨n, hn', rfl, HI⟩ := hrel
    by_cases hlt : n < es.length
    · obtain ⟨hM, hB⟩ := HI.out
      obtain ⟨be, oe, rfl, hbe, hc⟩ := HE.out.get (by omega)
      have hq0 := (hc n hlt).later hbe hB
      have hmem : es.getD n Le.zero ∈ es := by rw [getD_eq hlt]; exact List.getElem_mem hlt
      have hkl := (HSE.out _ hmem).1
      have HX := Lib.hid (show (es.take (n + 1)).reverse = es.getD n Le.zero :: (es.take n).reverse by rw [take_succ_getD (d := Le.zero) hlt, List.reverse_append]; rfl)
      obtain ⟨⟨key, gone, ⟨k, s, aF, fs, cF, aL, ws, cL, x⟩⟩, hq⟩ : ∃ q, es.getD n Le.zero = q := ⟨_, rfl⟩
      rw [hq] at hq0 HX hkl
      obtain ⟨q0, q1, q2, q3, q4, q5, q6⟩ := hq0
      simp only at q0 q1 q2 q3 q4 q5 q6
      have hkl2 : key.length ≤ 1000000 := hkl
      have HM := Lib.hid hM
      have HB := Lib.hid hB
      have HK := Lib.hid (strKey_of key hkl2)
      have k0 : (0 : Int) ≤ (n : Int) := by omega
      have k1 : (n : Int) < (es.length : Int) := by omega
      clear hM hB hc hmem hkl hq HI
      go_upto_region 5 with (fail)
      obtain ⟨w1, hw1⟩ : ∃ w1, wr.alloc (.cells #[.string ⟨key.toArray⟩, .bool gone, .int .i64 k, .string ⟨s.toArray⟩, .slice aF fs.length cF, .slice aL ws.length cL, .int .i64 x] 61) = w1 := ⟨_, rfl⟩
      have hb1 : Below wr.heap.size wr w1 := by rw [← hw1]; exact (Below.refl _ wr).alloc (Nat.le_refl _) _
      obtain ⟨p0, p1, p2, p3, p4, p5, p6⟩ : EAt w1 wr.heap.size 0 ⟨key, gone, ⟨k, s, aF, fs, cF, aL, ws, cL, x⟩⟩ := by rw [← hw1]; exact effW_at wr ⟨key, gone, ⟨k, s, aF, fs, cF, aL, ws, cL, x⟩⟩
      rw [hw1]
      have HB1 := Lib.hid (HB.out.trans (hb1.mono HB.out.size))
      have HM1 := Lib.hid (HM.out.later hb1)
      clear hw1 hb1 q0 q1 q2 q3 q4 q5 q6
      go_wp2_with (at_mapUpdate; refine wpList_mapUpdate_own _ rfl _ _ _ 88 rfl 9 61 (Maps.string_keyed Try.underlying9) Try.underlying88 heldR w.heap.size n (mapR (es.take n).reverse) rfl HM1.out (by unfold maxLen; omega) _ _ (.string key) rfl rfl HK.out (.held (effV ⟨key, gone, ⟨k, s, aF, fs, cF, aL, ws, cL, x⟩⟩)) [] rfl ?_; intro w2 hown2 hgrow2; have HM2 := Lib.hid hown2; have HG2 := Lib.hid hgrow2; clear hown2 hgrow2)
      go_roundw
      case rel => exact ⟨n + 1, by omega, by go_num, Lib.hid ⟨by rw [HX.out]; exact HM2.out, HB1.out.trans ((Keeps.of_grown (S := fun k => k < w.heap.size) HG2.out fun r e h => by injection e with e; omega).below HB1.out.size fun k hk => hk)⟩⟩
      case measure => simp [intOf]; omega
    · obtain rfl : n = es.length := by omega
      have k1 : ¬ (es.length : Int) < (es.length : Int) := by omega
      obtain ⟨hM, hB⟩ := HI.out
      rw [List.take_length] at hM
      have HM := Lib.hid hM
      have HB := Lib.hid hB
      have HKL : Hid (∀ e ∈ es.reverse, e.key.length ≤ 1000000) := Lib.hid fun e he => (HSE.out e (List.mem_reverse.1 he)).1
      clear hM hB HI
      go_wp2_with (first
        | (go_at_call 49; refine (mapKeys_any _ _).mono ?_; rintro e w1 ⟨rfl, rfl⟩)
        | (go_at_call 48; refine (keysOf_any w.heap.size es.length es.reverse wr HM.out (by omega) HKL.out).mono ?_; rintro e W2 ⟨ak, ck, ks, rfl, hwk, hks, hkm, hkn, hb2⟩; have HWK := Lib.hid hwk; have HKS := Lib.hid hks; have HKM := Lib.hid hkm; have HM2 := Lib.hid (HM.out.later hb2); have HB2 := Lib.hid (HB.out.trans (hb2.mono HB.out.size)); clear hwk hks hkm hb2))
      have hknI : (ks.length : Int) ≤ 100000 := by omega
      obtain ⟨wl, rfl⟩ : ∃ wl : World, wl = wr := ⟨_, rfl⟩
      go_loopw [8, 9, 11, 12, 13, 14, 32] (fun u rv _ _ _ _ i wr => ∃ n : Nat, n ≤ ks.length ∧ i = .int .i64 n ∧ ∃ ar cr, ∃ rs : List Lp, rv = .slice ar rs.length cr ∧ Hid (Ap2 w W2 (ps.map Lp.p) es.reverse ks n u ar cr rs wr)) (fun _ _ _ _ _ _ i _ => ks.length - (intOf i).toNat)
      case atStart => exact ⟨0, Nat.zero_le _, rfl, a, cap, ps, rfl, Lib.hid ⟨[], RowQ.none HB2.out, StepP.start HU.out _ _, HP.out, HA.out, by simp, HSM.out, Below.refl _ _, fun g e => by cases e⟩⟩
      case round =>
        obtain ⟨n, hn', rfl, ar, cr, rs, rfl, HI⟩ := hrel
        by_cases hlt : n < ks.length
        · obtain ⟨out, hro, hst, hrs, han, hlen, hsm, hb, hg⟩ := HI.out
          rw [List.length_map] at hlen
          obtain ⟨bk, ok, rfl, hbk, hck⟩ := HWK.out.get (by omega)
          have ck0 := (hb.cell (p := ⟨bk, ok + n, none⟩) hbk).trans (hck n hlt)
          have hmem : ks.getD n [] ∈ ks := by rw [getD_eq hlt]; exact List.getElem_mem hlt
          have hs := (HKM.out _).1 hmem
          have hef := effOf_key hs
          have hkl := HKL.out _ hef.2.1
          rw [hef.2.2] at hkl
          have HSP := Lib.hid (fun (e : Le) (h1 : effOf es.reverse (ks.getD n []) = e) (k : Nat) (b : Bool) (h3 : FoundAt rs (ks.getD n []) k b) => hst.step hlt HKS.out (e := e) h1 (by rw [← h1]; exact hef.2.2) h3)
          have HLK := Lib.hid (fun W (h : Below W2.heap.size W2 W) => (HM2.out.later h).look hs hkl)
          have HFI := Lib.hid (find_any ar cr rs (ks.getD n []) wr (hrs.later hro.2.1) (by omega) hst.2.2)
          have hese := HSE.out _ (List.mem_reverse.1 hef.2.1)
          have heok := HE.out.2 _ (List.mem_reverse.1 hef.2.1)
          have hk2 := hef.2.2
          obtain ⟨⟨key, gone, ⟨k0, s, aF, fs, cF, aL, ws, cL, x⟩⟩, hq⟩ : ∃ q, effOf es.reverse (ks.getD n []) = q := ⟨_, rfl⟩
          have HSQ := Lib.hid (HSP.out _ hq)
          rw [hq] at HLK hese heok hk2
          have hk3 : ks.getD n [] = key := hk2.symm
          rw [hk3] at HLK HFI HSQ ck0 hkl
          have HRO := Lib.hid hro
          have HRS := Lib.hid hrs
          have HSM1 := Lib.hid hsm
          have HB := Lib.hid hb
          have HG := Lib.hid hg
          have HES := Lib.hid hese
          have HEO := Lib.hid heok
          have i0 : (0 : Int) ≤ (n : Int) := by omega
          have i1 : (n : Int) < (ks.length : Int) := by omega
          clear hst hro hsm hb hg hck hmem hs hef HSP hese heok hk2 hk3 hq HI
          go_wp2_with fail
          refine HFI.out.mono ?_
          rintro e w1 ⟨k, bf, hf, rfl, hb1⟩
          have hfk : k ≤ rs.length := hf.1
          have hfb : bf = true → k < rs.length := fun h => (hf.2.2.2.1 h).1
          have HSQ1 := Lib.hid (HSQ.out k bf hf)
          have HB1 := Lib.hid (HB.out.trans (hb1.mono HB.out.size))
          have HRO1 := Lib.hid (HRO.out.later hb1)
          have HW1 := Lib.hid (with_at w u8 out ar cr k (rs.take k) w1 (by rw [List.length_take]; omega) HRO1.out ((HRS.out.take k).later HRO1.out.2.1) (fun h b o e he => by
            obtain ⟨b', o', e', hlt', -⟩ := (HRS.out.take k).get (List.length_pos_iff.2 h)
            rw [e] at e'
            cases e'
            have := (HRO.out.lt _ he.symm).1
            omega) (fun m hm => (HRS.out.2 m (List.mem_of_mem_take hm)).2.farO fun g e => (HRO.out.lt g e).1) (fun m hm => HSM1.out m (List.mem_of_mem_take hm)) (by omega) (by rw [List.length_take]; omega))
          have hrl := HRS.out.len
          have i2 : (0 : Int) ≤ (k : Int) := by omega
          have i3 : (k : Int) ≤ (rs.length : Int) := by omega
          have i4 : (rs.length : Int) ≤ (cr : Int) := by omega
          have i5 : (k : Int) ≤ (cr : Int) := by omega
          have HAN := Lib.hid han
          clear hf hb1 han HSQ
          go_upto_region 13 with (fail)
          go_cut [8] (fun v W => ApM w W2 (out.map Lp.p ++ (rs.take k).map Lp.p) v W)
          case first =>
            have hstep : ∀ e W, WithOut w u8 (out.map Lp.p ++ (rs.take k).map Lp.p) w1 e W → ∃ v, e = .returned v ∧ ApM w W2 (out.map Lp.p ++ (rs.take k).map Lp.p) v W := fun e W h => by
              obtain ⟨v1, out1, rfl, hro1, hop1, hkp1, hnw1⟩ := h
              have hs := HB1.out.size
              refine ⟨v1, rfl, out1, hro1, hop1, HB1.out.trans (hkp1.below hs fun g e => HG.out g e), fun g e => ?_⟩
              rcases hnw1 with h | h
              · exact HG.out g (h ▸ e)
              · have := h g e
                omega
            have HST := Lib.hid hstep
            clear hstep
            rcases ar with _ | ad
            · obtain rfl : cr = 0 := HAN.out rfl
              obtain rfl : k = 0 := by omega
              go_wp2_with fail
              refine HW1.out.mono ?_
              intro e w2 h
              obtain ⟨v1, rfl, hm⟩ := HST.out e w2 h
              have HMM := Lib.hid hm
              clear h hm
              go_wp2_with fail
              go_meet
              case rel => exact HMM.out
            · go_wp2_with fail
              refine HW1.out.mono ?_
              intro e w2 h
              obtain ⟨v1, rfl, hm⟩ := HST.out e w2 h
              have HMM := Lib.hid hm
              clear h hm
              go_wp2_with fail
              go_meet
              case rel => exact HMM.out
          case rest =>
            obtain ⟨out1, hro1, hop1, hb2, hg2⟩ := hcut
            obtain ⟨wd, rfl⟩ : ∃ wd : World, wd = wc := ⟨_, rfl⟩
            have HRO2 := Lib.hid hro1
            have HOP := Lib.hid hop1
            have HB2' := Lib.hid hb2
            have HG2 := Lib.hid hg2
            have hlk := HLK.out wd hb2
            simp only [effV] at hlk
            clear hro1 hop1 hb2 hg2 HW1
            go_upto_region 14 with (fail)
            go_cut [9] (fun v W => W = wd ∧ ApR w (rs.drop k) v)
            case first =>
              rcases ar with _ | ad
              · obtain rfl : cr = 0 := HAN.out rfl
                obtain rfl : k = 0 := by omega
                go_wp2_with fail
                go_meet
                case rel => exact ⟨rfl, ApR.nul (by rw [List.drop_zero]; exact List.eq_nil_of_length_eq_zero (by omega)) _ _ (by rw [List.length_drop]; omega)⟩
              · go_wp2_with fail
                all_goals go_meet
                case rel => exact ⟨rfl, ApR.end_ HRS.out hfk (by omega)⟩
                case rel => exact ⟨rfl, ApR.drop HRS.out hfk⟩
            case rest =>
              obtain ⟨hwc, ar1, cr1, rfl, hr1, hn1⟩ := hcut
              rw [hwc]
              have hl1 := hr1.len
              have hdl : (rs.drop k).length = rs.length - k := List.length_drop
              have HR1 := Lib.hid hr1
              have HN1 := Lib.hid hn1
              clear hwc hr1 hn1
              go_upto_if 50 with (fail)
              go_cut [9] (fun v W => W = wd ∧ ApR w (if bf then (rs.drop k).drop 1 else rs.drop k) v)
              case first =>
                cases bf with
                | false =>
                  go_wp2_with fail
                  go_meet
                  case rel => exact ⟨rfl, ar1, cr1, rfl, HR1.out, HN1.out⟩
                | true =>
                  have hk2 := hfb rfl
                  rw [hdl] at hl1 ⊢
                  have i6 : (1 : Int) ≤ ((rs.length - k : Nat) : Int) := by omega
                  have i7 : ((rs.length - k : Nat) : Int) ≤ (cr1 : Int) := by omega
                  rcases ar1 with _ | ad
                  · have := HN1.out rfl
                    omega
                  · go_wp2_with fail
                    all_goals go_meet
                    case rel => exact ⟨rfl, by have h2 := ApR.end_ (k := 1) HR1.out (by rw [hdl]; omega) (by omega); rw [hdl] at h2; exact h2⟩
                    case rel => exact ⟨rfl, by have h2 := ApR.drop (k := 1) HR1.out (by rw [hdl]; omega); rw [hdl] at h2; exact h2⟩
              case rest =>
                obtain ⟨hwc, ar2, cr2, rfl, hr2, hn2⟩ := hcut
                rw [hwc]
                have HSQ := Lib.hid (show StepP _ _ _ _ _ (if bf = true then _ else _) from HSQ1.out)
                obtain ⟨rs2, hrs2⟩ : ∃ rs2, (if bf = true then (rs.drop k).drop 1 else rs.drop k) = rs2 := ⟨_, rfl⟩
                have hl2 : rs2.length ≤ rs.length - k := by
                  rw [← hrs2]
                  split
                  · rw [List.length_drop, List.length_drop]; omega
                  · rw [List.length_drop]; exact Nat.le_refl _
                have hsm2 : ∀ p ∈ rs2, p.p.Sm := fun p hp => HSM1.out p (by
                  rw [← hrs2] at hp
                  split at hp
                  · exact List.mem_of_mem_drop (List.mem_of_mem_drop hp)
                  · exact List.mem_of_mem_drop hp)
                rw [hrs2] at HSQ hr2 ⊢
                have HR2 := Lib.hid hr2
                have HN2 := Lib.hid hn2
                have HSM2 := Lib.hid hsm2
                have hyl : ((rs.take k).map Lp.p).length = k := by rw [List.length_map, List.length_take]; omega
                obtain ⟨w5, hw5⟩ : ∃ w5, wd.alloc (.cells #[.string ⟨key.toArray⟩, .bool gone, .int .i64 k0, .string ⟨s.toArray⟩, .slice aF fs.length cF, .slice aL ws.length cL, .int .i64 x] 61) = w5 := ⟨_, rfl⟩
                have hb5 : Below wd.heap.size wd w5 := by rw [← hw5]; exact (Below.refl _ wd).alloc (Nat.le_refl _) _
                obtain ⟨p0, p1, p2, p3, p4, p5, p6⟩ : EAt w5 wd.heap.size 0 ⟨key, gone, ⟨k0, s, aF, fs, cF, aL, ws, cL, x⟩⟩ := by rw [← hw5]; exact effW_at wd ⟨key, gone, ⟨k0, s, aF, fs, cF, aL, ws, cL, x⟩⟩
                have HW5 := Lib.hid hw5
                have HB5 := Lib.hid (HB2'.out.trans (hb5.mono HB2'.out.size))
                have HRO5 := Lib.hid (HRO2.out.later hb5)
                clear hwc hr2 hn2 hrs2 hsm2 hw5 hb5 HSQ1 hfb hl1 hdl HR1 HN1
                go_upto_region 18 with (fail)
                rw [show wd.alloc (.cells #[.string ⟨key.toArray⟩, .bool gone, .int .i64 k0, .string ⟨s.toArray⟩, .slice aF fs.length cF, .slice aL ws.length cL, .int .i64 x] 61) = w5 from HW5.out]
                clear HW5 hlk
                cases gone with
                | true =>
                  go_wp2_with fail
                  go_roundw
                  case rel => exact ⟨n + 1, by omega, by go_num, ar2, cr2, rs2, rfl, Lib.hid (Ap2.next HSQ.out ⟨out1, HRO5.out, by rw [HOP.out]; simp [Db.ins, Le.e], HB5.out, HG2.out⟩ HR2.out HN2.out HSM2.out (by simp [Db.ins, Le.e]; omega))⟩
                  case measure => simp [intOf]; omega
                | false =>
                  obtain ⟨w6, hw6⟩ : ∃ w6, w5.alloc (.cells #[.string ⟨key.toArray⟩, .int .i64 k0, .string ⟨s.toArray⟩, .slice aF fs.length cF, .slice aL ws.length cL, .int .i64 x] 65) = w6 := ⟨_, rfl⟩
                  have hx6 := World.alloc_heap_new w5 (.cells #[.string ⟨key.toArray⟩, .int .i64 k0, .string ⟨s.toArray⟩, .slice aF fs.length cF, .slice aL ws.length cL, .int .i64 x] 65)
                  have hb6 : Below w5.heap.size w5 w6 := by rw [← hw6]; exact (Below.refl _ w5).alloc (Nat.le_refl _) _
                  rw [hw6] at hx6
                  have HP6 : Hid (Prs w6 (some ⟨w5.heap.size, 0, none⟩) 1 [⟨key, k0, s, aF, fs, cF, aL, ws, cL, x⟩]) := Lib.hid (prs_one hx6 ⟨HEO.out.1, HEO.out.2.later (HB5out HRO5.out.2.1 hb6)⟩)
                  have HW6 := Lib.hid hw6
                  have HB6 := Lib.hid (HB5.out.trans (hb6.mono HB5.out.size))
                  have HRO6 := Lib.hid (HRO5.out.later hb6)
                  have hlo : out1.length ≤ 1000000 := by
                    have := congrArg List.length HOP.out
                    rw [List.length_append, List.length_map, List.length_map, hyl] at this
                    omega
                  have HW7 := Lib.hid (with_at w _ out1 (some ⟨w5.heap.size, 0, none⟩) 1 1 [⟨key, k0, s, aF, fs, cF, aL, ws, cL, x⟩] w6 rfl HRO6.out HP6.out (fun _ b o e he => by
                    injection e with e
                    injection e with e1
                    subst e1
                    have := (HRO5.out.lt _ he.symm).2
                    omega) (fun m hm => by
                      rw [List.mem_singleton.1 hm]
                      exact HEO.out.2.farO fun g e => (HRO5.out.lt g e).1) (fun m hm => by
                      rw [List.mem_singleton.1 hm]
                      exact HES.out) hlo (by simp))
                  clear hw6 hx6 hb6
                  go_upto_region 19 with (fail)
                  go_wp2_with fail
                  rw [show w5.alloc (.cells #[.string ⟨key.toArray⟩, .int .i64 k0, .string ⟨s.toArray⟩, .slice aF fs.length cF, .slice aL ws.length cL, .int .i64 x] 65) = w6 from HW6.out]
                  refine HW7.out.mono ?_
                  rintro e w7 ⟨v7, out7, rfl, hro7, hop7, hkp7, hnw7⟩
                  have HM7 : Hid (ApM w W2 (out.map Lp.p ++ (rs.take k).map Lp.p ++ [⟨key, ⟨k0, s, fs, ws, x⟩⟩]) v7 w7) := Lib.hid ⟨out7, hro7, by rw [hop7, HOP.out]; rfl, HB6.out.trans (hkp7.below HB6.out.size fun g e => HG2.out g e), fun g e => by
                    have hs := HB6.out.size
                    rcases hnw7 with h | h
                    · exact HG2.out g (h ▸ e)
                    · have := h g e
                      omega⟩
                  clear hro7 hop7 hkp7 hnw7
                  go_wp2_with fail
                  go_roundw
                  case rel => exact ⟨n + 1, by omega, by go_num, ar2, cr2, rs2, rfl, Lib.hid (Ap2.next HSQ.out HM7.out HR2.out HN2.out HSM2.out (by simp [Db.ins, Le.e]; omega))⟩
                  case measure => simp [intOf]; omega
        · obtain rfl : n = ks.length := by omega
          have k1 : ¬ (ks.length : Int) < (ks.length : Int) := by omega
          obtain ⟨out, hro, hst, hrs, han, hlen, hsm, hb, hg⟩ := HI.out
          rw [List.length_map] at hlen
          have HF := Lib.hid (StepP.fin HU.out hst HKM.out)
          have HC := Lib.hid (with_any w u8 out ar cr rs wr hro (hrs.later hro.2.1) (fun h b off e he => by
            subst e
            obtain ⟨b', o', e', hlt', -⟩ := hrs.get (List.length_pos_iff.2 h)
            cases e'
            have := (hro.lt b he.symm).1
            omega) (fun m hm => (hrs.2 m hm).2.farO fun g e => (hro.lt g e).1) hsm (by omega) (by omega))
          clear hst hrs han hsm hb hg HI
          go_wp2_with (go_at_call 51; refine HC.out.mono ?_; rintro e w3 ⟨v, out', rfl, hro', hop', -, -⟩; have HR := Lib.hid hro'; have HO := Lib.hid hop'; clear hro' hop')
          go_ret
          exact ⟨v, out', rfl, HR.out, HO.out.trans HF.out⟩
end Go.Proofs.Ytihleddhjmejoaa
