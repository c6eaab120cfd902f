/- The contract of the reference's SameSpace (11.1). -/
import Derived.Test.YtihleddhjmejoaaMD05
import Derived.Test.YtihleddhjmejoaaMD06
import Derived.Test.YtihleddhjmejoaaMD11
import Derived.BigQuiet
import Derived.LoopTactic
import Derived.Sort.Walk0
namespace Go.Proofs.Ytihleddhjmejoaa
open Go.RowKit Go.Shelf
attribute [local go_sem] Oper.semAt_some
set_option linter.unusedVariables false
set_option linter.unusedSimpArgs false

theorem all_upto {fB : Nat → Bool} {n : Nat} (h : ∀ j, j < n → fB j = true) (hn : fB n = true) : ∀ j, j < n + 1 → fB j = true := fun j hj => by
  rcases Nat.lt_or_ge j n with h' | h'
  · exact h j h'
  · rw [show j = n by omega]; exact hn

theorem all_falseS {n m : Nat} {p : Nat → Bool} (h : m < n) (hp : p m = false) : (List.range n).all p = false := by
  rw [List.all_eq_false]
  exact ⟨m, List.mem_range.2 h, by rw [hp]; decide⟩
set_option maxRecDepth 100000 in
set_option maxHeartbeats 8000000 in
theorem sameSpace_any (a : Option Addr) (c : Nat) (ps : List Lp) (b : Option Addr) (d : Nat) (qs : List Lp) (w : World) (hP : Prs w a c ps) (hQ : Prs w b d qs) (hn : ps.length ≤ 1000000) (hm : qs.length ≤ 1000000) :
    Calls Try.prog 22 #[.slice a ps.length c, .slice b qs.length d] w fun r W => r = .returned (.bool (Db.sameS (ps.map Lp.p) (qs.map Lp.p))) ∧ Below w.heap.size w W := by
  have HP := Lib.hid hP
  have HP2 := Lib.hid hQ
  have HR := Lib.hid (show Db.sameS (ps.map Lp.p) (qs.map Lp.p) = (decide (ps.length = qs.length) && (List.range ps.length).all (Db.sameAt (ps.map Lp.p) (qs.map Lp.p))) by unfold Db.sameS; rw [List.length_map, List.length_map])
  have HG := Lib.hid (fun i (h1 : i < ps.length) (h2 : i < qs.length) => show Db.sameAt (ps.map Lp.p) (qs.map Lp.p) i = (decide ((ps.getD i Lp.zero).key = (qs.getD i Lp.zero).key) && It.sameB (ps.getD i Lp.zero).it.i (qs.getD i Lp.zero).it.i) by
    unfold Db.sameAt; rw [map_getD Lp.p ps Lp.zero Db.P.zero h1, map_getD Lp.p qs Lp.zero Db.P.zero h2]; rfl)
  generalize Db.sameS (ps.map Lp.p) (qs.map Lp.p) = R at *
  generalize Db.sameAt (ps.map Lp.p) (qs.map Lp.p) = fB at *
  clear hP hQ
  by_cases hln : ps.length = qs.length
  rotate_left
  · have h1 : (ps.length : Int) ≠ (qs.length : Int) := by omega
    have h2 : ((ps.length : Int) != (qs.length : Int)) = true := bne_iff_ne.2 h1
    have hq : R = false := by rw [HR.out, decide_eq_false hln]; rfl
    have h3 := HP.out.len
    have h4 := HP2.out.len
    subst hq
    clear hln
    go_enter Try.func22, Try.ntmps22
    go_wp2
    go_ret
    exact ⟨rfl, Below.refl _ _⟩
  have h1 : (qs.length : Int) = (ps.length : Int) := by omega
  have HLN := Lib.hid hln
  have HLN2 := Lib.hid hln.symm
  clear hln
  go_enter Try.func22, Try.ntmps22
  go_wp2
  go_loopw [5] (fun i wr => ∃ n : Nat, n ≤ ps.length ∧ i = .int .i64 n ∧ Hid (∀ j, j < n → fB j = true) ∧ Hid (Below w.heap.size w wr)) (fun i _ => ps.length - (intOf i).toNat)
  case atStart => exact ⟨0, Nat.zero_le _, rfl, Lib.hid fun j h => by omega, Lib.hid (Below.refl _ _)⟩
  case round =>
    obtain ⟨n, hn', rfl, HJ, HK⟩ := hrel
    by_cases hlt : n < ps.length
    · have hlt2 : n < qs.length := by have := HLN.out; omega
      have hP1 := HP.out.later HK.out
      have hP2 := HP2.out.later HK.out
      obtain ⟨b1, o1, rfl, hb1, hc1⟩ := hP1.get (by omega)
      obtain ⟨b2, o2, rfl, hb2, hc2⟩ := hP2.get (by omega)
      have hk1 := hc1 n hlt
      have hk2 := hc2 n hlt2
      have hok1 := hP1.at hlt
      have hok2 := hP2.at hlt2
      have HX := HG.out n hlt hlt2
      clear hc1 hc2 hP1 hP2
      obtain ⟨⟨key1, k1i, s1, aF1, fs1, cF1, aL1, ws1, cL1, x1⟩, hq1⟩ : ∃ q, ps.getD n Lp.zero = q := ⟨_, rfl⟩
      obtain ⟨⟨key2, k2i, s2, aF2, fs2, cF2, aL2, ws2, cL2, x2⟩, hq2⟩ : ∃ q, qs.getD n Lp.zero = q := ⟨_, rfl⟩
      rw [hq1] at hk1 hok1 HX
      rw [hq2] at hk2 hok2 HX
      clear hq1 hq2
      obtain ⟨p0, p1, p2, p3, p4, p5⟩ := hk1
      obtain ⟨q0, q1, q2, q3, q4, q5⟩ := hk2
      have k0 : (0 : Int) ≤ (n : Int) := by omega
      have k1 : (n : Int) < (ps.length : Int) := by omega
      have k2 : (n : Int) < (qs.length : Int) := by omega
      have hM := fun W (f1 : Fds W aF1 cF1 fs1) (f2 : Fds W aF2 cF2 fs2) (l1 : Wds W aL1 cL1 ws1) (l2 : Wds W aL2 cL2 ws2) => refSame_any k1i k2i x1 x2 s1 s2 aF1 aF2 cF1 cF2 fs1 fs2 aL1 aL2 cL1 cL2 ws1 ws2 W f1 f2 l1 l2
      simp only [itv] at hM
      obtain ⟨-, -, hF1, hL1, -⟩ := hok1
      obtain ⟨-, -, hF2, hL2, -⟩ := hok2
      replace HX : fB n = (decide (key1 = key2) && It.sameB ⟨k1i, s1, fs1, ws1, x1⟩ ⟨k2i, s2, fs2, ws2, x2⟩) := HX
      by_cases hke : key1 = key2
      rotate_left
      · have HQ : Hid (fB n = false) := Lib.hid (by rw [HX, decide_eq_false hke]; rfl)
        have HKE := Lib.hid hke
        clear HX hke
        go_wp2
        have HS0 : Below wr.heap.size wr wr.drew := ((Below.refl _ wr).drew)
        refine wp_region_L (S := fun W => Below wr.heap.size wr W) (f := 25) (by kernel_rfl) ?_
        refine wpAnyL_take (i := 0) (some 17) (v := .slice (some ⟨b1, o1, none⟩) ps.length c) rfl rfl (by kernel_rfl) (by kernel_rfl) (by kernel_rfl) (by kernel_rfl) (fun _ _ _ h => h) (by rfl) (fun W hS => ?_) HS0 ?_
        · go_simp
        try simp only [Act.put, List.setIfInBounds_toArray, List.set_cons_zero, List.set_cons_succ]
        refine wpAnyL_take (i := 1) (some 18) (v := .int .i64 (n : Int)) rfl rfl (by kernel_rfl) (by kernel_rfl) (by kernel_rfl) (by kernel_rfl) (fun _ _ _ h => h) (by rfl) (fun W hS => ?_) HS0 ?_
        · go_simp
        try simp only [Act.put, List.setIfInBounds_toArray, List.set_cons_zero, List.set_cons_succ]
        refine wpAnyL_take (i := 2) (some 19) (v := .pointer (some ⟨b1, o1 + n * 6, none⟩)) rfl rfl (by kernel_rfl) (by kernel_rfl) (by kernel_rfl) (by kernel_rfl) (fun _ _ _ h => h) (by rfl) (fun W hS => ?_) HS0 ?_
        · go_simp
        try simp only [Act.put, List.setIfInBounds_toArray, List.set_cons_zero, List.set_cons_succ]
        refine wpAnyL_take (i := 3) (some 20) (v := .pointer (some ⟨b1, o1 + n * 6, none⟩)) rfl rfl (by kernel_rfl) (by kernel_rfl) (by kernel_rfl) (by kernel_rfl) (fun _ _ _ h => h) (by rfl) (fun W hS => ?_) HS0 ?_
        · go_simp
        try simp only [Act.put, List.setIfInBounds_toArray, List.set_cons_zero, List.set_cons_succ]
        refine wpAnyL_take (i := 4) (some 21) (v := .string ⟨key1.toArray⟩) rfl rfl (by kernel_rfl) (by kernel_rfl) (by kernel_rfl) (by kernel_rfl) (fun _ _ _ h => h) (by rfl) (fun W hS => ?_) HS0 ?_
        · have m0 := (hS.cell (p := ⟨b1, o1 + n * 6, none⟩) hb1).trans p0
          go_simp
        try simp only [Act.put, List.setIfInBounds_toArray, List.set_cons_zero, List.set_cons_succ]
        refine wpAnyL_take (i := 5) (some 22) (v := .slice (some ⟨b2, o2, none⟩) qs.length d) rfl rfl (by kernel_rfl) (by kernel_rfl) (by kernel_rfl) (by kernel_rfl) (fun _ _ _ h => h) (by rfl) (fun W hS => ?_) HS0 ?_
        · go_simp
        try simp only [Act.put, List.setIfInBounds_toArray, List.set_cons_zero, List.set_cons_succ]
        refine wpAnyL_take (i := 6) (some 23) (v := .int .i64 (n : Int)) rfl rfl (by kernel_rfl) (by kernel_rfl) (by kernel_rfl) (by kernel_rfl) (fun _ _ _ h => h) (by rfl) (fun W hS => ?_) HS0 ?_
        · go_simp
        try simp only [Act.put, List.setIfInBounds_toArray, List.set_cons_zero, List.set_cons_succ]
        refine wpAnyL_take (i := 7) (some 24) (v := .pointer (some ⟨b2, o2 + n * 6, none⟩)) rfl rfl (by kernel_rfl) (by kernel_rfl) (by kernel_rfl) (by kernel_rfl) (fun _ _ _ h => h) (by rfl) (fun W hS => ?_) HS0 ?_
        · go_simp
        try simp only [Act.put, List.setIfInBounds_toArray, List.set_cons_zero, List.set_cons_succ]
        refine wpAnyL_take (i := 8) (some 25) (v := .pointer (some ⟨b2, o2 + n * 6, none⟩)) rfl rfl (by kernel_rfl) (by kernel_rfl) (by kernel_rfl) (by kernel_rfl) (fun _ _ _ h => h) (by rfl) (fun W hS => ?_) HS0 ?_
        · go_simp
        try simp only [Act.put, List.setIfInBounds_toArray, List.set_cons_zero, List.set_cons_succ]
        refine wpAnyL_take (i := 9) (some 26) (v := .string ⟨key2.toArray⟩) rfl rfl (by kernel_rfl) (by kernel_rfl) (by kernel_rfl) (by kernel_rfl) (fun _ _ _ h => h) (by rfl) (fun W hS => ?_) HS0 ?_
        · have m0 := (hS.cell (p := ⟨b2, o2 + n * 6, none⟩) hb2).trans q0
          go_simp
        try simp only [Act.put, List.setIfInBounds_toArray, List.set_cons_zero, List.set_cons_succ]
        refine wpAnyL_take (i := 10) (some 27) (v := .bool true) rfl rfl (by kernel_rfl) (by kernel_rfl) (by kernel_rfl) (by kernel_rfl) (fun _ _ _ h => h) (by rfl) (fun W hS => ?_) HS0 ?_
        · go_simp
          exact HKE.out
        try simp only [Act.put, List.setIfInBounds_toArray, List.set_cons_zero, List.set_cons_succ]
        refine wpAnyL_take (i := 11) (some 28) (v := .bool true) rfl rfl (by kernel_rfl) (by kernel_rfl) (by kernel_rfl) (by kernel_rfl) (fun _ _ _ h => h) (by rfl) (fun W hS => ?_) HS0 ?_
        · go_simp
        try simp only [Act.put, List.setIfInBounds_toArray, List.set_cons_zero, List.set_cons_succ]
        refine wpAnyL_pass (i := 12) (some 29) rfl rfl (by kernel_rfl) (by kernel_rfl) (by kernel_rfl) (by kernel_rfl) (fun _ _ _ h => h) (by rfl) HS0 ?_
        try simp only [Act.put, List.setIfInBounds_toArray, List.set_cons_zero, List.set_cons_succ]
        refine wpAnyL_pass (i := 13) (some 30) rfl rfl (by kernel_rfl) (by kernel_rfl) (by kernel_rfl) (by kernel_rfl) (fun _ _ _ h => h) (by rfl) HS0 ?_
        try simp only [Act.put, List.setIfInBounds_toArray, List.set_cons_zero, List.set_cons_succ]
        refine wpAnyL_pass (i := 14) (some 31) rfl rfl (by kernel_rfl) (by kernel_rfl) (by kernel_rfl) (by kernel_rfl) (fun _ _ _ h => h) (by rfl) HS0 ?_
        try simp only [Act.put, List.setIfInBounds_toArray, List.set_cons_zero, List.set_cons_succ]
        refine wpAnyL_pass (i := 15) (some 32) rfl rfl (by kernel_rfl) (by kernel_rfl) (by kernel_rfl) (by kernel_rfl) (fun _ _ _ h => h) (by rfl) HS0 ?_
        try simp only [Act.put, List.setIfInBounds_toArray, List.set_cons_zero, List.set_cons_succ]
        refine wpAnyL_pass (i := 16) (some 33) rfl rfl (by kernel_rfl) (by kernel_rfl) (by kernel_rfl) (by kernel_rfl) (fun _ _ _ h => h) (by rfl) HS0 ?_
        try simp only [Act.put, List.setIfInBounds_toArray, List.set_cons_zero, List.set_cons_succ]
        refine wpAnyL_pass (i := 17) (some 34) rfl rfl (by kernel_rfl) (by kernel_rfl) (by kernel_rfl) (by kernel_rfl) (fun _ _ _ h => h) (by rfl) HS0 ?_
        try simp only [Act.put, List.setIfInBounds_toArray, List.set_cons_zero, List.set_cons_succ]
        refine wpAnyL_pass (i := 18) (some 35) rfl rfl (by kernel_rfl) (by kernel_rfl) (by kernel_rfl) (by kernel_rfl) (fun _ _ _ h => h) (by rfl) HS0 ?_
        try simp only [Act.put, List.setIfInBounds_toArray, List.set_cons_zero, List.set_cons_succ]
        refine wpAnyL_pass (i := 19) (some 36) rfl rfl (by kernel_rfl) (by kernel_rfl) (by kernel_rfl) (by kernel_rfl) (fun _ _ _ h => h) (by rfl) HS0 ?_
        try simp only [Act.put, List.setIfInBounds_toArray, List.set_cons_zero, List.set_cons_succ]
        refine wpAnyL_pass (i := 20) (some 37) rfl rfl (by kernel_rfl) (by kernel_rfl) (by kernel_rfl) (by kernel_rfl) (fun _ _ _ h => h) (by rfl) HS0 ?_
        try simp only [Act.put, List.setIfInBounds_toArray, List.set_cons_zero, List.set_cons_succ]
        refine wpAnyL_pass (i := 21) (some 38) rfl rfl (by kernel_rfl) (by kernel_rfl) (by kernel_rfl) (by kernel_rfl) (fun _ _ _ h => h) (by rfl) HS0 ?_
        try simp only [Act.put, List.setIfInBounds_toArray, List.set_cons_zero, List.set_cons_succ]
        refine wpAnyL_pass (i := 22) (some 39) rfl rfl (by kernel_rfl) (by kernel_rfl) (by kernel_rfl) (by kernel_rfl) (fun _ _ _ h => h) (by rfl) HS0 ?_
        try simp only [Act.put, List.setIfInBounds_toArray, List.set_cons_zero, List.set_cons_succ]
        refine wpAnyL_pass (i := 23) (some 40) rfl rfl (by kernel_rfl) (by kernel_rfl) (by kernel_rfl) (by kernel_rfl) (fun _ _ _ h => h) (by rfl) HS0 ?_
        try simp only [Act.put, List.setIfInBounds_toArray, List.set_cons_zero, List.set_cons_succ]
        refine wpAnyL_one (j := 24) (by kernel_rfl) rfl (by rfl) (fun K hK => ?_)
        go_simp
        refine hK _ _ (fun _ => HS0) ?_
        clear hK K
        try simp only [Act.put, List.setIfInBounds_toArray, List.set_cons_zero, List.set_cons_succ]
        refine wpAnyL_done (by kernel_rfl) ?_ _
        go_wp2
        go_ret
        exact ⟨by rw [HR.out, decide_eq_true HLN.out, all_falseS hlt HQ.out]; rfl, HK.out.trans (HS0.mono HK.out.size)⟩
      have HKE := Lib.hid hke
      rw [decide_eq_true hke] at HX
      clear hke
      skip
      cases hsm : It.sameB ⟨k1i, s1, fs1, ws1, x1⟩ ⟨k2i, s2, fs2, ws2, x2⟩ with
      | false =>
        have HQ : Hid (fB n = false) := Lib.hid (by rw [HX, hsm]; simp)
        rw [hsm] at hM
        clear HX hsm
        go_wp2
        have HS0 : Below wr.heap.size wr wr.drew := ((Below.refl _ wr).drew)
        refine wp_region_L (S := fun W => Below wr.heap.size wr W) (f := 25) (by kernel_rfl) ?_
        refine wpAnyL_take (i := 0) (some 17) (v := .slice (some ⟨b1, o1, none⟩) ps.length c) rfl rfl (by kernel_rfl) (by kernel_rfl) (by kernel_rfl) (by kernel_rfl) (fun _ _ _ h => h) (by rfl) (fun W hS => ?_) HS0 ?_
        · go_simp
        try simp only [Act.put, List.setIfInBounds_toArray, List.set_cons_zero, List.set_cons_succ]
        refine wpAnyL_take (i := 1) (some 18) (v := .int .i64 (n : Int)) rfl rfl (by kernel_rfl) (by kernel_rfl) (by kernel_rfl) (by kernel_rfl) (fun _ _ _ h => h) (by rfl) (fun W hS => ?_) HS0 ?_
        · go_simp
        try simp only [Act.put, List.setIfInBounds_toArray, List.set_cons_zero, List.set_cons_succ]
        refine wpAnyL_take (i := 2) (some 19) (v := .pointer (some ⟨b1, o1 + n * 6, none⟩)) rfl rfl (by kernel_rfl) (by kernel_rfl) (by kernel_rfl) (by kernel_rfl) (fun _ _ _ h => h) (by rfl) (fun W hS => ?_) HS0 ?_
        · go_simp
        try simp only [Act.put, List.setIfInBounds_toArray, List.set_cons_zero, List.set_cons_succ]
        refine wpAnyL_take (i := 3) (some 20) (v := .pointer (some ⟨b1, o1 + n * 6, none⟩)) rfl rfl (by kernel_rfl) (by kernel_rfl) (by kernel_rfl) (by kernel_rfl) (fun _ _ _ h => h) (by rfl) (fun W hS => ?_) HS0 ?_
        · go_simp
        try simp only [Act.put, List.setIfInBounds_toArray, List.set_cons_zero, List.set_cons_succ]
        refine wpAnyL_take (i := 4) (some 21) (v := .string ⟨key1.toArray⟩) rfl rfl (by kernel_rfl) (by kernel_rfl) (by kernel_rfl) (by kernel_rfl) (fun _ _ _ h => h) (by rfl) (fun W hS => ?_) HS0 ?_
        · have m0 := (hS.cell (p := ⟨b1, o1 + n * 6, none⟩) hb1).trans p0
          go_simp
        try simp only [Act.put, List.setIfInBounds_toArray, List.set_cons_zero, List.set_cons_succ]
        refine wpAnyL_take (i := 5) (some 22) (v := .slice (some ⟨b2, o2, none⟩) qs.length d) rfl rfl (by kernel_rfl) (by kernel_rfl) (by kernel_rfl) (by kernel_rfl) (fun _ _ _ h => h) (by rfl) (fun W hS => ?_) HS0 ?_
        · go_simp
        try simp only [Act.put, List.setIfInBounds_toArray, List.set_cons_zero, List.set_cons_succ]
        refine wpAnyL_take (i := 6) (some 23) (v := .int .i64 (n : Int)) rfl rfl (by kernel_rfl) (by kernel_rfl) (by kernel_rfl) (by kernel_rfl) (fun _ _ _ h => h) (by rfl) (fun W hS => ?_) HS0 ?_
        · go_simp
        try simp only [Act.put, List.setIfInBounds_toArray, List.set_cons_zero, List.set_cons_succ]
        refine wpAnyL_take (i := 7) (some 24) (v := .pointer (some ⟨b2, o2 + n * 6, none⟩)) rfl rfl (by kernel_rfl) (by kernel_rfl) (by kernel_rfl) (by kernel_rfl) (fun _ _ _ h => h) (by rfl) (fun W hS => ?_) HS0 ?_
        · go_simp
        try simp only [Act.put, List.setIfInBounds_toArray, List.set_cons_zero, List.set_cons_succ]
        refine wpAnyL_take (i := 8) (some 25) (v := .pointer (some ⟨b2, o2 + n * 6, none⟩)) rfl rfl (by kernel_rfl) (by kernel_rfl) (by kernel_rfl) (by kernel_rfl) (fun _ _ _ h => h) (by rfl) (fun W hS => ?_) HS0 ?_
        · go_simp
        try simp only [Act.put, List.setIfInBounds_toArray, List.set_cons_zero, List.set_cons_succ]
        refine wpAnyL_take (i := 9) (some 26) (v := .string ⟨key2.toArray⟩) rfl rfl (by kernel_rfl) (by kernel_rfl) (by kernel_rfl) (by kernel_rfl) (fun _ _ _ h => h) (by rfl) (fun W hS => ?_) HS0 ?_
        · have m0 := (hS.cell (p := ⟨b2, o2 + n * 6, none⟩) hb2).trans q0
          go_simp
        try simp only [Act.put, List.setIfInBounds_toArray, List.set_cons_zero, List.set_cons_succ]
        refine wpAnyL_take (i := 10) (some 27) (v := .bool false) rfl rfl (by kernel_rfl) (by kernel_rfl) (by kernel_rfl) (by kernel_rfl) (fun _ _ _ h => h) (by rfl) (fun W hS => ?_) HS0 ?_
        · go_simp
          exact HKE.out
        try simp only [Act.put, List.setIfInBounds_toArray, List.set_cons_zero, List.set_cons_succ]
        refine wpAnyL_take (i := 11) (some 28) (v := .bool false) rfl rfl (by kernel_rfl) (by kernel_rfl) (by kernel_rfl) (by kernel_rfl) (fun _ _ _ h => h) (by rfl) (fun W hS => ?_) HS0 ?_
        · go_simp
        try simp only [Act.put, List.setIfInBounds_toArray, List.set_cons_zero, List.set_cons_succ]
        refine wpAnyL_take (i := 12) (some 29) (v := .slice (some ⟨b1, o1, none⟩) ps.length c) rfl rfl (by kernel_rfl) (by kernel_rfl) (by kernel_rfl) (by kernel_rfl) (fun _ _ _ h => h) (by rfl) (fun W hS => ?_) HS0 ?_
        · go_simp
        try simp only [Act.put, List.setIfInBounds_toArray, List.set_cons_zero, List.set_cons_succ]
        refine wpAnyL_take (i := 13) (some 30) (v := .int .i64 (n : Int)) rfl rfl (by kernel_rfl) (by kernel_rfl) (by kernel_rfl) (by kernel_rfl) (fun _ _ _ h => h) (by rfl) (fun W hS => ?_) HS0 ?_
        · go_simp
        try simp only [Act.put, List.setIfInBounds_toArray, List.set_cons_zero, List.set_cons_succ]
        refine wpAnyL_take (i := 14) (some 31) (v := .pointer (some ⟨b1, o1 + n * 6, none⟩)) rfl rfl (by kernel_rfl) (by kernel_rfl) (by kernel_rfl) (by kernel_rfl) (fun _ _ _ h => h) (by rfl) (fun W hS => ?_) HS0 ?_
        · go_simp
        try simp only [Act.put, List.setIfInBounds_toArray, List.set_cons_zero, List.set_cons_succ]
        refine wpAnyL_take (i := 15) (some 32) (v := .pointer (some ⟨b1, o1 + n * 6 + 1, none⟩)) rfl rfl (by kernel_rfl) (by kernel_rfl) (by kernel_rfl) (by kernel_rfl) (fun _ _ _ h => h) (by rfl) (fun W hS => ?_) HS0 ?_
        · go_simp
        try simp only [Act.put, List.setIfInBounds_toArray, List.set_cons_zero, List.set_cons_succ]
        refine wpAnyL_take (i := 16) (some 33) (v := .agg #[.int .i64 k1i, .string ⟨s1.toArray⟩, .slice aF1 fs1.length cF1, .slice aL1 ws1.length cL1, .int .i64 x1]) rfl rfl (by kernel_rfl) (by kernel_rfl) (by kernel_rfl) (by kernel_rfl) (fun _ _ _ h => h) (by rfl) (fun W hS => ?_) HS0 ?_
        · have m0 := (hS.cell (p := ⟨b1, o1 + n * 6 + 1, none⟩) hb1).trans p1
          have m1 := (hS.cell (p := ⟨b1, o1 + n * 6 + 1 + 1, none⟩) hb1).trans p2
          have m2 := (hS.cell (p := ⟨b1, o1 + n * 6 + 1 + 2, none⟩) hb1).trans p3
          have m3 := (hS.cell (p := ⟨b1, o1 + n * 6 + 1 + 3, none⟩) hb1).trans p4
          have m4 := (hS.cell (p := ⟨b1, o1 + n * 6 + 1 + 4, none⟩) hb1).trans p5
          go_simp
        try simp only [Act.put, List.setIfInBounds_toArray, List.set_cons_zero, List.set_cons_succ]
        refine wpAnyL_take (i := 17) (some 34) (v := .slice (some ⟨b2, o2, none⟩) qs.length d) rfl rfl (by kernel_rfl) (by kernel_rfl) (by kernel_rfl) (by kernel_rfl) (fun _ _ _ h => h) (by rfl) (fun W hS => ?_) HS0 ?_
        · go_simp
        try simp only [Act.put, List.setIfInBounds_toArray, List.set_cons_zero, List.set_cons_succ]
        refine wpAnyL_take (i := 18) (some 35) (v := .int .i64 (n : Int)) rfl rfl (by kernel_rfl) (by kernel_rfl) (by kernel_rfl) (by kernel_rfl) (fun _ _ _ h => h) (by rfl) (fun W hS => ?_) HS0 ?_
        · go_simp
        try simp only [Act.put, List.setIfInBounds_toArray, List.set_cons_zero, List.set_cons_succ]
        refine wpAnyL_take (i := 19) (some 36) (v := .pointer (some ⟨b2, o2 + n * 6, none⟩)) rfl rfl (by kernel_rfl) (by kernel_rfl) (by kernel_rfl) (by kernel_rfl) (fun _ _ _ h => h) (by rfl) (fun W hS => ?_) HS0 ?_
        · go_simp
        try simp only [Act.put, List.setIfInBounds_toArray, List.set_cons_zero, List.set_cons_succ]
        refine wpAnyL_take (i := 20) (some 37) (v := .pointer (some ⟨b2, o2 + n * 6 + 1, none⟩)) rfl rfl (by kernel_rfl) (by kernel_rfl) (by kernel_rfl) (by kernel_rfl) (fun _ _ _ h => h) (by rfl) (fun W hS => ?_) HS0 ?_
        · go_simp
        try simp only [Act.put, List.setIfInBounds_toArray, List.set_cons_zero, List.set_cons_succ]
        refine wpAnyL_take (i := 21) (some 38) (v := .agg #[.int .i64 k2i, .string ⟨s2.toArray⟩, .slice aF2 fs2.length cF2, .slice aL2 ws2.length cL2, .int .i64 x2]) rfl rfl (by kernel_rfl) (by kernel_rfl) (by kernel_rfl) (by kernel_rfl) (fun _ _ _ h => h) (by rfl) (fun W hS => ?_) HS0 ?_
        · have m0 := (hS.cell (p := ⟨b2, o2 + n * 6 + 1, none⟩) hb2).trans q1
          have m1 := (hS.cell (p := ⟨b2, o2 + n * 6 + 1 + 1, none⟩) hb2).trans q2
          have m2 := (hS.cell (p := ⟨b2, o2 + n * 6 + 1 + 2, none⟩) hb2).trans q3
          have m3 := (hS.cell (p := ⟨b2, o2 + n * 6 + 1 + 3, none⟩) hb2).trans q4
          have m4 := (hS.cell (p := ⟨b2, o2 + n * 6 + 1 + 4, none⟩) hb2).trans q5
          go_simp
        try simp only [Act.put, List.setIfInBounds_toArray, List.set_cons_zero, List.set_cons_succ]
        refine wpAnyL_one (j := 22) (by kernel_rfl) rfl (by rfl) (fun K hK => ?_)
        go_simp
        refine (hM _ (hF1.later HS0) (hF2.later HS0) (hL1.later HS0) (hL2.later HS0)).mono ?_
        rintro e wc1 ⟨rfl, hb⟩
        have HS1 := HS0.trans (hb.mono HS0.size)
        clear hb
        refine hK _ _ (fun _ => HS1) ?_
        clear hK K
        try simp only [Act.put, List.setIfInBounds_toArray, List.set_cons_zero, List.set_cons_succ]
        refine wpAnyL_take (i := 23) (some 40) (v := .bool true) rfl rfl (by kernel_rfl) (by kernel_rfl) (by kernel_rfl) (by kernel_rfl) (fun _ _ _ h => h) (by rfl) (fun W hS => ?_) HS1 ?_
        · go_simp
        try simp only [Act.put, List.setIfInBounds_toArray, List.set_cons_zero, List.set_cons_succ]
        refine wpAnyL_one (j := 24) (by kernel_rfl) rfl (by rfl) (fun K hK => ?_)
        go_simp
        refine hK _ _ (fun _ => HS1) ?_
        clear hK K
        try simp only [Act.put, List.setIfInBounds_toArray, List.set_cons_zero, List.set_cons_succ]
        refine wpAnyL_done (by kernel_rfl) ?_ _
        go_wp2
        go_ret
        exact ⟨by rw [HR.out, decide_eq_true HLN.out, all_falseS hlt HQ.out]; rfl, HK.out.trans (HS1.mono HK.out.size)⟩
      | true =>
        have HQ : Hid (fB n = true) := Lib.hid (by rw [HX, hsm]; rfl)
        rw [hsm] at hM
        clear HX hsm
        go_wp2
        have HS0 : Below wr.heap.size wr wr.drew := ((Below.refl _ wr).drew)
        refine wp_region_L (S := fun W => Below wr.heap.size wr W) (f := 25) (by kernel_rfl) ?_
        refine wpAnyL_take (i := 0) (some 17) (v := .slice (some ⟨b1, o1, none⟩) ps.length c) rfl rfl (by kernel_rfl) (by kernel_rfl) (by kernel_rfl) (by kernel_rfl) (fun _ _ _ h => h) (by rfl) (fun W hS => ?_) HS0 ?_
        · go_simp
        try simp only [Act.put, List.setIfInBounds_toArray, List.set_cons_zero, List.set_cons_succ]
        refine wpAnyL_take (i := 1) (some 18) (v := .int .i64 (n : Int)) rfl rfl (by kernel_rfl) (by kernel_rfl) (by kernel_rfl) (by kernel_rfl) (fun _ _ _ h => h) (by rfl) (fun W hS => ?_) HS0 ?_
        · go_simp
        try simp only [Act.put, List.setIfInBounds_toArray, List.set_cons_zero, List.set_cons_succ]
        refine wpAnyL_take (i := 2) (some 19) (v := .pointer (some ⟨b1, o1 + n * 6, none⟩)) rfl rfl (by kernel_rfl) (by kernel_rfl) (by kernel_rfl) (by kernel_rfl) (fun _ _ _ h => h) (by rfl) (fun W hS => ?_) HS0 ?_
        · go_simp
        try simp only [Act.put, List.setIfInBounds_toArray, List.set_cons_zero, List.set_cons_succ]
        refine wpAnyL_take (i := 3) (some 20) (v := .pointer (some ⟨b1, o1 + n * 6, none⟩)) rfl rfl (by kernel_rfl) (by kernel_rfl) (by kernel_rfl) (by kernel_rfl) (fun _ _ _ h => h) (by rfl) (fun W hS => ?_) HS0 ?_
        · go_simp
        try simp only [Act.put, List.setIfInBounds_toArray, List.set_cons_zero, List.set_cons_succ]
        refine wpAnyL_take (i := 4) (some 21) (v := .string ⟨key1.toArray⟩) rfl rfl (by kernel_rfl) (by kernel_rfl) (by kernel_rfl) (by kernel_rfl) (fun _ _ _ h => h) (by rfl) (fun W hS => ?_) HS0 ?_
        · have m0 := (hS.cell (p := ⟨b1, o1 + n * 6, none⟩) hb1).trans p0
          go_simp
        try simp only [Act.put, List.setIfInBounds_toArray, List.set_cons_zero, List.set_cons_succ]
        refine wpAnyL_take (i := 5) (some 22) (v := .slice (some ⟨b2, o2, none⟩) qs.length d) rfl rfl (by kernel_rfl) (by kernel_rfl) (by kernel_rfl) (by kernel_rfl) (fun _ _ _ h => h) (by rfl) (fun W hS => ?_) HS0 ?_
        · go_simp
        try simp only [Act.put, List.setIfInBounds_toArray, List.set_cons_zero, List.set_cons_succ]
        refine wpAnyL_take (i := 6) (some 23) (v := .int .i64 (n : Int)) rfl rfl (by kernel_rfl) (by kernel_rfl) (by kernel_rfl) (by kernel_rfl) (fun _ _ _ h => h) (by rfl) (fun W hS => ?_) HS0 ?_
        · go_simp
        try simp only [Act.put, List.setIfInBounds_toArray, List.set_cons_zero, List.set_cons_succ]
        refine wpAnyL_take (i := 7) (some 24) (v := .pointer (some ⟨b2, o2 + n * 6, none⟩)) rfl rfl (by kernel_rfl) (by kernel_rfl) (by kernel_rfl) (by kernel_rfl) (fun _ _ _ h => h) (by rfl) (fun W hS => ?_) HS0 ?_
        · go_simp
        try simp only [Act.put, List.setIfInBounds_toArray, List.set_cons_zero, List.set_cons_succ]
        refine wpAnyL_take (i := 8) (some 25) (v := .pointer (some ⟨b2, o2 + n * 6, none⟩)) rfl rfl (by kernel_rfl) (by kernel_rfl) (by kernel_rfl) (by kernel_rfl) (fun _ _ _ h => h) (by rfl) (fun W hS => ?_) HS0 ?_
        · go_simp
        try simp only [Act.put, List.setIfInBounds_toArray, List.set_cons_zero, List.set_cons_succ]
        refine wpAnyL_take (i := 9) (some 26) (v := .string ⟨key2.toArray⟩) rfl rfl (by kernel_rfl) (by kernel_rfl) (by kernel_rfl) (by kernel_rfl) (fun _ _ _ h => h) (by rfl) (fun W hS => ?_) HS0 ?_
        · have m0 := (hS.cell (p := ⟨b2, o2 + n * 6, none⟩) hb2).trans q0
          go_simp
        try simp only [Act.put, List.setIfInBounds_toArray, List.set_cons_zero, List.set_cons_succ]
        refine wpAnyL_take (i := 10) (some 27) (v := .bool false) rfl rfl (by kernel_rfl) (by kernel_rfl) (by kernel_rfl) (by kernel_rfl) (fun _ _ _ h => h) (by rfl) (fun W hS => ?_) HS0 ?_
        · go_simp
          exact HKE.out
        try simp only [Act.put, List.setIfInBounds_toArray, List.set_cons_zero, List.set_cons_succ]
        refine wpAnyL_take (i := 11) (some 28) (v := .bool false) rfl rfl (by kernel_rfl) (by kernel_rfl) (by kernel_rfl) (by kernel_rfl) (fun _ _ _ h => h) (by rfl) (fun W hS => ?_) HS0 ?_
        · go_simp
        try simp only [Act.put, List.setIfInBounds_toArray, List.set_cons_zero, List.set_cons_succ]
        refine wpAnyL_take (i := 12) (some 29) (v := .slice (some ⟨b1, o1, none⟩) ps.length c) rfl rfl (by kernel_rfl) (by kernel_rfl) (by kernel_rfl) (by kernel_rfl) (fun _ _ _ h => h) (by rfl) (fun W hS => ?_) HS0 ?_
        · go_simp
        try simp only [Act.put, List.setIfInBounds_toArray, List.set_cons_zero, List.set_cons_succ]
        refine wpAnyL_take (i := 13) (some 30) (v := .int .i64 (n : Int)) rfl rfl (by kernel_rfl) (by kernel_rfl) (by kernel_rfl) (by kernel_rfl) (fun _ _ _ h => h) (by rfl) (fun W hS => ?_) HS0 ?_
        · go_simp
        try simp only [Act.put, List.setIfInBounds_toArray, List.set_cons_zero, List.set_cons_succ]
        refine wpAnyL_take (i := 14) (some 31) (v := .pointer (some ⟨b1, o1 + n * 6, none⟩)) rfl rfl (by kernel_rfl) (by kernel_rfl) (by kernel_rfl) (by kernel_rfl) (fun _ _ _ h => h) (by rfl) (fun W hS => ?_) HS0 ?_
        · go_simp
        try simp only [Act.put, List.setIfInBounds_toArray, List.set_cons_zero, List.set_cons_succ]
        refine wpAnyL_take (i := 15) (some 32) (v := .pointer (some ⟨b1, o1 + n * 6 + 1, none⟩)) rfl rfl (by kernel_rfl) (by kernel_rfl) (by kernel_rfl) (by kernel_rfl) (fun _ _ _ h => h) (by rfl) (fun W hS => ?_) HS0 ?_
        · go_simp
        try simp only [Act.put, List.setIfInBounds_toArray, List.set_cons_zero, List.set_cons_succ]
        refine wpAnyL_take (i := 16) (some 33) (v := .agg #[.int .i64 k1i, .string ⟨s1.toArray⟩, .slice aF1 fs1.length cF1, .slice aL1 ws1.length cL1, .int .i64 x1]) rfl rfl (by kernel_rfl) (by kernel_rfl) (by kernel_rfl) (by kernel_rfl) (fun _ _ _ h => h) (by rfl) (fun W hS => ?_) HS0 ?_
        · have m0 := (hS.cell (p := ⟨b1, o1 + n * 6 + 1, none⟩) hb1).trans p1
          have m1 := (hS.cell (p := ⟨b1, o1 + n * 6 + 1 + 1, none⟩) hb1).trans p2
          have m2 := (hS.cell (p := ⟨b1, o1 + n * 6 + 1 + 2, none⟩) hb1).trans p3
          have m3 := (hS.cell (p := ⟨b1, o1 + n * 6 + 1 + 3, none⟩) hb1).trans p4
          have m4 := (hS.cell (p := ⟨b1, o1 + n * 6 + 1 + 4, none⟩) hb1).trans p5
          go_simp
        try simp only [Act.put, List.setIfInBounds_toArray, List.set_cons_zero, List.set_cons_succ]
        refine wpAnyL_take (i := 17) (some 34) (v := .slice (some ⟨b2, o2, none⟩) qs.length d) rfl rfl (by kernel_rfl) (by kernel_rfl) (by kernel_rfl) (by kernel_rfl) (fun _ _ _ h => h) (by rfl) (fun W hS => ?_) HS0 ?_
        · go_simp
        try simp only [Act.put, List.setIfInBounds_toArray, List.set_cons_zero, List.set_cons_succ]
        refine wpAnyL_take (i := 18) (some 35) (v := .int .i64 (n : Int)) rfl rfl (by kernel_rfl) (by kernel_rfl) (by kernel_rfl) (by kernel_rfl) (fun _ _ _ h => h) (by rfl) (fun W hS => ?_) HS0 ?_
        · go_simp
        try simp only [Act.put, List.setIfInBounds_toArray, List.set_cons_zero, List.set_cons_succ]
        refine wpAnyL_take (i := 19) (some 36) (v := .pointer (some ⟨b2, o2 + n * 6, none⟩)) rfl rfl (by kernel_rfl) (by kernel_rfl) (by kernel_rfl) (by kernel_rfl) (fun _ _ _ h => h) (by rfl) (fun W hS => ?_) HS0 ?_
        · go_simp
        try simp only [Act.put, List.setIfInBounds_toArray, List.set_cons_zero, List.set_cons_succ]
        refine wpAnyL_take (i := 20) (some 37) (v := .pointer (some ⟨b2, o2 + n * 6 + 1, none⟩)) rfl rfl (by kernel_rfl) (by kernel_rfl) (by kernel_rfl) (by kernel_rfl) (fun _ _ _ h => h) (by rfl) (fun W hS => ?_) HS0 ?_
        · go_simp
        try simp only [Act.put, List.setIfInBounds_toArray, List.set_cons_zero, List.set_cons_succ]
        refine wpAnyL_take (i := 21) (some 38) (v := .agg #[.int .i64 k2i, .string ⟨s2.toArray⟩, .slice aF2 fs2.length cF2, .slice aL2 ws2.length cL2, .int .i64 x2]) rfl rfl (by kernel_rfl) (by kernel_rfl) (by kernel_rfl) (by kernel_rfl) (fun _ _ _ h => h) (by rfl) (fun W hS => ?_) HS0 ?_
        · have m0 := (hS.cell (p := ⟨b2, o2 + n * 6 + 1, none⟩) hb2).trans q1
          have m1 := (hS.cell (p := ⟨b2, o2 + n * 6 + 1 + 1, none⟩) hb2).trans q2
          have m2 := (hS.cell (p := ⟨b2, o2 + n * 6 + 1 + 2, none⟩) hb2).trans q3
          have m3 := (hS.cell (p := ⟨b2, o2 + n * 6 + 1 + 3, none⟩) hb2).trans q4
          have m4 := (hS.cell (p := ⟨b2, o2 + n * 6 + 1 + 4, none⟩) hb2).trans q5
          go_simp
        try simp only [Act.put, List.setIfInBounds_toArray, List.set_cons_zero, List.set_cons_succ]
        refine wpAnyL_one (j := 22) (by kernel_rfl) rfl (by rfl) (fun K hK => ?_)
        go_simp
        refine (hM _ (hF1.later HS0) (hF2.later HS0) (hL1.later HS0) (hL2.later HS0)).mono ?_
        rintro e wc1 ⟨rfl, hb⟩
        have HS1 := HS0.trans (hb.mono HS0.size)
        clear hb
        refine hK _ _ (fun _ => HS1) ?_
        clear hK K
        try simp only [Act.put, List.setIfInBounds_toArray, List.set_cons_zero, List.set_cons_succ]
        refine wpAnyL_take (i := 23) (some 40) (v := .bool false) rfl rfl (by kernel_rfl) (by kernel_rfl) (by kernel_rfl) (by kernel_rfl) (fun _ _ _ h => h) (by rfl) (fun W hS => ?_) HS1 ?_
        · go_simp
        try simp only [Act.put, List.setIfInBounds_toArray, List.set_cons_zero, List.set_cons_succ]
        refine wpAnyL_one (j := 24) (by kernel_rfl) rfl (by rfl) (fun K hK => ?_)
        go_simp
        refine hK _ _ (fun _ => HS1) ?_
        clear hK K
        try simp only [Act.put, List.setIfInBounds_toArray, List.set_cons_zero, List.set_cons_succ]
        refine wpAnyL_done (by kernel_rfl) ?_ _
        go_wp2
        go_roundw
        case rel => exact ⟨n + 1, by omega, by go_num, Lib.hid (all_upto HJ.out HQ.out), Lib.hid (HK.out.trans (HS1.mono HK.out.size))⟩
        case measure => simp [intOf]; omega
    · obtain rfl : n = ps.length := by omega
      have HQ := Lib.hid (show (List.range ps.length).all fB = true by rw [List.all_eq_true]; intro j hj; exact HJ.out j (List.mem_range.1 hj))
      have k1 : ¬ (ps.length : Int) < (ps.length : Int) := by omega
      go_wp2
      go_ret
      exact ⟨by rw [HR.out, HQ.out, decide_eq_true HLN.out]; rfl, HK.out⟩
end Go.Proofs.Ytihleddhjmejoaa
