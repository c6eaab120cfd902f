/- The contract of the reference's moving (14.1). -/
import Derived.Test.YtahmddopbmjepaaDoorRD12
import Derived.Test.YtahmddopbmjepaaDoorRD24
import Derived.Test.YtahmddopbmjepaaDoorRD15
import Derived.Deep.DeepCutAuto
import Derived.BigQuiet
namespace Go.Proofs.YtahmddopbmjepaaDoor
open Go.RowKit Go.Shelf
attribute [local go_sem] Oper.semAt_some
set_option linter.unusedVariables false
set_option linter.unusedSimpArgs false

namespace Rt
/-- how many of the first keys are there. -/
def cnt (has : Bs → Bool) (ks : List Bs) (k : Nat) : Nat := ((ks.take k).filter has).length
theorem cnt_le (has : Bs → Bool) (ks : List Bs) (k : Nat) : cnt has ks k ≤ k := by
  unfold cnt
  have h1 := List.length_filter_le has (ks.take k)
  have h2 := List.length_take_le k ks
  omega
theorem cnt_succ {has : Bs → Bool} {ks : List Bs} {k : Nat} (h : k < ks.length) : cnt has ks (k + 1) = cnt has ks k + if has (ks.getD k []) then 1 else 0 := by
  unfold cnt
  rw [List.take_succ_eq_append_getElem h, List.filter_append, List.length_append, getD_eq h]
  cases hh : has ks[k] <;> simp [hh]
theorem cnt_all {has : Bs → Bool} {ks : List Bs} (h : cnt has ks ks.length = ks.length) : ks.all has = true := by
  unfold cnt at h
  rw [List.take_length] at h
  rw [List.all_eq_true]
  exact List.length_filter_eq_length_iff.1 h
theorem cnt_none {has : Bs → Bool} {ks : List Bs} (h : cnt has ks ks.length = 0) : ks.all (fun k => !has k) = true := by
  unfold cnt at h
  rw [List.take_length] at h
  rw [List.all_eq_true]
  intro k hk
  have := List.eq_nil_of_length_eq_zero h
  rw [List.filter_eq_nil_iff] at this
  simpa using this k hk
theorem cnt_of_all {has : Bs → Bool} {ks : List Bs} (h : ks.all has = true) : cnt has ks ks.length = ks.length := by
  unfold cnt
  rw [List.take_length]
  rw [List.all_eq_true] at h
  exact List.length_filter_eq_length_iff.2 h
theorem cnt_of_none {has : Bs → Bool} {ks : List Bs} (h : ks.all (fun k => !has k) = true) : cnt has ks ks.length = 0 := by
  unfold cnt
  rw [List.take_length]
  rw [List.all_eq_true] at h
  rw [List.length_eq_zero_iff, List.filter_eq_nil_iff]
  intro k hk
  have := h k hk
  simpa using this
theorem moving_cnt {has : Bs → Bool} {m : Mv} {ks : List Bs} (h : ∀ j, j < ks.length → locked m (ks.getD j []) = false) :
    movingS has m ks = if cnt has ks ks.length = ks.length then [] else if cnt has ks ks.length = 0 then redir ask m.s m.t else again := by
  unfold movingS
  rw [if_neg]
  · by_cases h1 : ks.all has = true
    · rw [if_pos h1, if_pos (cnt_of_all h1)]
    · rw [if_neg h1, if_neg (fun e => h1 (cnt_all e))]
      by_cases h2 : ks.all (fun k => !has k) = true
      · rw [if_pos h2, if_pos (cnt_of_none h2)]
      · rw [if_neg h2, if_neg (fun e => h2 (cnt_none e))]
  · intro ha
    obtain ⟨k, hk, hl⟩ := List.any_eq_true.1 ha
    obtain ⟨j, hj, rfl⟩ := key_at hk
    rw [h j hj] at hl
    cases hl
end Rt

theorem got_field (k : Int) (s : List UInt8) (aF : Option Addr) (nF cF : Nat) (aL : Option Addr) (nL cL : Nat) (x : Int) (b : Bool) (W : World) : (Instr.field 75 (.agg #[.int .i64 k, .string ⟨List.toArray s⟩, .slice aF nF cF, .slice aL nL cL, .int .i64 x, .bool b]) 1).run Tryd.prog W = .ok (.bool b) W := by
  unfold Instr.field
  simp [go_sem, part, asAgg]

set_option maxRecDepth 100000 in
set_option maxHeartbeats 8000000 in
theorem moving_any (nv : NV) (ps : List Lp) (s t n : Int) (mk : List UInt8) (aK : Option Addr) (cK : Nat) (ks : List (List UInt8)) (w : World) (hdb : nv.db.n = ps.length) (hP : Prs w nv.db.a nv.db.c ps) (hn : ps.length ≤ 1000000)
    (hm : Rt.Mv.Ok ⟨s, t, n, mk⟩) (hK : Wds w aK cK ks) (hk0 : 0 < ks.length) (hk1 : ks.length ≤ 1000000) :
    Calls Tryd.prog 32 #[.agg nv.cells, .agg #[.int .i64 s, .int .i64 t, .int .i64 n, .string ⟨mk.toArray⟩], .slice aK ks.length cK] w fun e w' => e = .returned (.string ⟨(Rt.movingS (fun k => (rawL ps k).isSome) ⟨s, t, n, mk⟩ ks).toArray⟩) ∧ Below w.heap.size w w' := by
  obtain ⟨w1, hw1⟩ : ∃ w1, w.alloc (.cells nv.cells 36) = w1 := ⟨_, rfl⟩
  obtain ⟨w2, hw2⟩ : ∃ w2, w1.alloc (.cells #[.int .i64 s, .int .i64 t, .int .i64 n, .string ⟨mk.toArray⟩] 61) = w2 := ⟨_, rfl⟩
  have hx1 : NdBox w1 w.heap.size nv := by rw [← hw1]; exact NdBox.new w nv
  have hB1 : Below w.heap.size w w1 := by rw [← hw1]; exact (Below.refl _ w).alloc (Nat.le_refl _) _
  have hlt1 : w.heap.size < w1.heap.size := by rw [← hw1]; simp
  have hx2 : MvBox w2 w1.heap.size s t n mk := by rw [← hw2]; exact MvBox.new w1 s t n mk
  have hB2 : Below w1.heap.size w1 w2 := by rw [← hw2]; exact (Below.refl _ w1).alloc (Nat.le_refl _) _
  have hlt2 : w1.heap.size < w2.heap.size := by rw [← hw2]; simp
  have hB12 := hB1.trans (hB2.mono hB1.size)
  obtain ⟨bK, oK, rfl, hbK, hcK⟩ := hK.get hk0
  have hcap := hK.1
  have hcapM := hK.2.1
  have hkI : (ks.length : Int) ≤ 1000000 := by omega
  have hkI0 : (0 : Int) < (ks.length : Int) := by omega
  obtain ⟨has, hhas⟩ : ∃ has : List UInt8 → Bool, (fun k => (rawL ps k).isSome) = has := ⟨_, rfl⟩
  rw [hhas]
  have HRAW : Hid (∀ (k : List UInt8) (W : World), Below w.heap.size w W → Calls Tryd.prog 23 #[.slice nv.db.a nv.db.n nv.db.c, .string ⟨k.toArray⟩] W fun e w' => ∃ k' s' aF nF cF aL nL cL x, e = .returned (.agg #[.int .i64 k', .string ⟨List.toArray s'⟩, .slice aF nF cF, .slice aL nL cL, .int .i64 x, .bool (has k)]) ∧ Below W.heap.size W w') :=
    Lib.hid fun k W hb => by
      rw [hdb]
      refine (raw_any nv.db.a nv.db.c ps k W (hP.later hb) hn).mono ?_
      rintro e w' ⟨rfl, hb2⟩
      exact ⟨_, _, _, _, _, _, _, _, _, by rw [← hhas]; rfl, hb2⟩
  have HDS : Hid (∀ W : World, Calls Tryd.prog 21 #[.int .i64 s] W fun e w' => e = .returned (.string ⟨(Dig.dec s).toArray⟩) ∧ Below W.heap.size W w') := Lib.hid fun W => digits_any s W hm.1.1 hm.1.2
  have HDT : Hid (∀ W : World, Calls Tryd.prog 21 #[.int .i64 t] W fun e w' => e = .returned (.string ⟨(Dig.dec t).toArray⟩) ∧ Below W.heap.size W w') := Lib.hid fun W => digits_any t W hm.2.1.1 hm.2.1.2
  have hlS : (Dig.dec s).length ≤ 20 := by
    have := hm.1
    simp only at this
    unfold Dig.dec
    split
    · have := Dig.digs_len20 (u := (-s).toNat) (by omega); simp; omega
    · have := Dig.digs_len20 (u := s.toNat) (by omega); omega
  have hlT : (Dig.dec t).length ≤ 20 := by
    have := hm.2.1
    simp only at this
    unfold Dig.dec
    split
    · have := Dig.digs_len20 (u := (-t).toNat) (by omega); simp; omega
    · have := Dig.digs_len20 (u := t.toNat) (by omega); omega
  have hn0 := hm.2.2.1
  simp only at hn0
  have HCK := Lib.hid hcK
  have HX := Lib.hid (hx1.later hB2 hlt1)
  have HM := Lib.hid hx2
  have HB := Lib.hid hB12
  have hlt : w.heap.size < w2.heap.size := by omega
  obtain ⟨R, hR⟩ : ∃ R, Rt.movingS has ⟨s, t, n, mk⟩ ks = R := ⟨_, rfl⟩
  rw [hR]
  have hmk : ∀ (h : ∀ j, j < ks.length → Rt.locked ⟨s, t, n, mk⟩ (ks.getD j []) = false), _ := fun h => Rt.moving_cnt (has := has) h
  have HEARLY : Hid (∀ j, j < ks.length → Rt.locked ⟨s, t, n, mk⟩ (ks.getD j []) = true → R = Rt.again) := Lib.hid fun j hj h => by rw [← hR]; exact Rt.moving_early hj (.inl h)
  obtain ⟨S, hS⟩ : ∃ S, Dig.dec s = S := ⟨_, rfl⟩
  obtain ⟨T, hT⟩ : ∃ T, Dig.dec t = T := ⟨_, rfl⟩
  have HEND : Hid ((∀ j, j < ks.length → Rt.locked ⟨s, t, n, mk⟩ (ks.getD j []) = false) → R = if Rt.cnt has ks ks.length = ks.length then [] else if Rt.cnt has ks ks.length = 0 then Rt.ask ++ 32 :: (S ++ 32 :: T) else Rt.again) := Lib.hid fun h => by rw [← hR, hmk h, ← hS, ← hT]; rfl
  rw [hS] at HDS hlS
  rw [hT] at HDT hlT
  clear hx1 hx2 hB1 hB2 hB12 hcK hK hP hm hR hhas hmk hS hT hdb
  go_enter Tryd.func32, Tryd.ntmps32
  go_wp2_with fail
  clear hw1 hw2
  go_loopw [7, 8] (fun h i wr => ∃ k c : Nat, k ≤ ks.length ∧ c ≤ k ∧ h = .int .i64 c ∧ i = .int .i64 k ∧ Hid (Rt.cnt has ks k = c) ∧ Hid (∀ j, j < k → Rt.locked ⟨s, t, n, mk⟩ (ks.getD j []) = false) ∧ Hid (Below w2.heap.size w2 wr)) (fun _ i _ => ks.length - (intOf i).toNat)
  case atStart => exact ⟨0, 0, by omega, by omega, rfl, rfl, Lib.hid rfl, Lib.hid fun j h => by omega, Lib.hid (Below.refl _ _)⟩
  case round =>
    obtain ⟨k, c, hk, hc, rfl, rfl, HC, HS, HBr⟩ := hrel
    have hzr := HBr.out.size
    have HBw := Lib.hid (HB.out.trans (HBr.out.mono HB.out.size))
    obtain ⟨m0, m1, m2, m3⟩ := (HM.out.later HBr.out hlt2).at
    have HXr := Lib.hid (HX.out.later HBr.out hlt)
    by_cases hltk : k < ks.length
    · have ck := (HBw.out.cell (p := ⟨bK, oK + k, none⟩) hbK).trans (HCK.out k hltk)
      have q0 : (0 : Int) ≤ (k : Int) := by omega
      have q1 : (k : Int) < (ks.length : Int) := by omega
      obtain ⟨y, hy⟩ : ∃ y, ks.getD k [] = y := ⟨_, rfl⟩
      obtain ⟨hq, hhq⟩ : ∃ hq, has y = hq := ⟨_, rfl⟩
      have HRK := fun W hb => HRAW.out y W hb
      have HEK : Hid ((0 < n ∧ y = mk) → R = Rt.again) := Lib.hid fun h => HEARLY.out k hltk (by rw [hy]; exact Rt.locked_iff.2 h)
      have HNX : Hid (¬ (0 < n ∧ y = mk) → ∀ j, j < k + 1 → Rt.locked ⟨s, t, n, mk⟩ (ks.getD j []) = false) := Lib.hid fun h1 j hj => by
        rcases Nat.lt_or_ge j k with h | h
        · exact HS.out j h
        · obtain rfl : j = k := by omega
          rw [hy, ← Bool.not_eq_true]
          exact fun e => h1 (Rt.locked_iff.1 e)
      have HCN : Hid (Rt.cnt has ks (k + 1) = c + if hq then 1 else 0) := Lib.hid (by rw [Rt.cnt_succ hltk, hy, hhq, HC.out])
      rw [hhq] at HRK
      rw [hy] at ck
      have HRL := Lib.hid HRK
      clear HRK hy hhq
      by_cases h1 : 0 < n ∧ y = mk
      · obtain ⟨h1, h2⟩ := h1
        have HZ := Lib.hid (HEK.out ⟨h1, h2⟩)
        have c1 : decide (0 < n) = true := decide_eq_true h1
        have c2 : (y == mk) = true := by rw [beq_iff_eq]; exact h2
        clear h2
        go_upto_region 5 with (fail)
        go_quiet (fail)
        go_wp2_with fail
        go_ret
        exact ⟨by rw [HZ.out]; rfl, below_drewN HBw.out _⟩
      · have HZ := Lib.hid (HNX.out h1)
        by_cases h2 : 0 < n
        · have c1 : decide (0 < n) = true := decide_eq_true h2
          have c2 : (y == mk) = false := by rw [beq_eq_false_iff_ne]; exact fun e => h1 ⟨h2, e⟩
          clear h1
          go_upto_region 5 with (fail)
          go_quiet (fail)
          go_upto_region 7 with (fail)
          obtain ⟨wq, hwq⟩ : ∃ wq, wr.drewN nq = wq := ⟨_, rfl⟩
          rw [hwq]
          have hbq : Below wr.heap.size wr wq.drew := by rw [← hwq]; exact (below_drewN (Below.refl _ _) _).drew
          have HBq := Lib.hid (HBw.out.trans (hbq.mono HBw.out.size))
          have HB2q := Lib.hid (HBr.out.trans (hbq.mono HBr.out.size))
          obtain ⟨-, -, -, x6, -⟩ := (HXr.out.later hbq (by omega)).few
          have HS0 : wq.drew.cell? ⟨w.heap.size, 6, none⟩ = some (.slice nv.db.a nv.db.n nv.db.c) ∧ wq.drew.cell? ⟨bK, oK + k, none⟩ = some (.string ⟨y.toArray⟩) := ⟨x6, (hbq.cell (p := ⟨bK, oK + k, none⟩) (by have := HBw.out.size; simp only; omega)).trans ck⟩
          clear hwq hbq x6 ck m0 m1 m2 m3
          refine wp_region_L (S := fun W => W.cell? ⟨w.heap.size, 6, none⟩ = some (.slice nv.db.a nv.db.n nv.db.c) ∧ W.cell? ⟨bK, oK + k, none⟩ = some (.string ⟨y.toArray⟩)) (f := 8) (by kernel_rfl) ?_
          refine wpAnyL_take (i := 0) (some 27) (v := .pointer (some ⟨w.heap.size, 6, none⟩)) rfl rfl (by kernel_rfl) (by kernel_rfl) (by kernel_rfl) (by kernel_rfl) (fun _ _ _ h => h) (by rfl) (fun W hS => ?_) HS0 ?_
          · obtain ⟨m0, m1⟩ := hS
            go_simp
          try simp only [Act.put, List.setIfInBounds_toArray, List.set_cons_zero, List.set_cons_succ]
          refine wpAnyL_take (i := 1) (some 28) (v := .slice nv.db.a nv.db.n nv.db.c) rfl rfl (by kernel_rfl) (by kernel_rfl) (by kernel_rfl) (by kernel_rfl) (fun _ _ _ h => h) (by rfl) (fun W hS => ?_) HS0 ?_
          · obtain ⟨m0, m1⟩ := hS
            go_simp
          try simp only [Act.put, List.setIfInBounds_toArray, List.set_cons_zero, List.set_cons_succ]
          refine wpAnyL_take (i := 2) (some 29) (v := .slice (some ⟨bK, oK, none⟩) ks.length cK) rfl rfl (by kernel_rfl) (by kernel_rfl) (by kernel_rfl) (by kernel_rfl) (fun _ _ _ h => h) (by rfl) (fun W hS => ?_) HS0 ?_
          · obtain ⟨m0, m1⟩ := hS
            go_simp
          try simp only [Act.put, List.setIfInBounds_toArray, List.set_cons_zero, List.set_cons_succ]
          refine wpAnyL_take (i := 3) (some 30) (v := .int .i64 k) rfl rfl (by kernel_rfl) (by kernel_rfl) (by kernel_rfl) (by kernel_rfl) (fun _ _ _ h => h) (by rfl) (fun W hS => ?_) HS0 ?_
          · obtain ⟨m0, m1⟩ := hS
            go_simp
          try simp only [Act.put, List.setIfInBounds_toArray, List.set_cons_zero, List.set_cons_succ]
          refine wpAnyL_take (i := 4) (some 31) (v := .pointer (some ⟨bK, oK + k, none⟩)) rfl rfl (by kernel_rfl) (by kernel_rfl) (by kernel_rfl) (by kernel_rfl) (fun _ _ _ h => h) (by rfl) (fun W hS => ?_) HS0 ?_
          · obtain ⟨m0, m1⟩ := hS
            go_simp
          try simp only [Act.put, List.setIfInBounds_toArray, List.set_cons_zero, List.set_cons_succ]
          refine wpAnyL_take (i := 5) (some 32) (v := .string ⟨y.toArray⟩) rfl rfl (by kernel_rfl) (by kernel_rfl) (by kernel_rfl) (by kernel_rfl) (fun _ _ _ h => h) (by rfl) (fun W hS => ?_) HS0 ?_
          · obtain ⟨m0, m1⟩ := hS
            go_simp
          try simp only [Act.put, List.setIfInBounds_toArray, List.set_cons_zero, List.set_cons_succ]
          refine wpAnyL_one (j := 6) (by kernel_rfl) rfl (by rfl) (fun K hK => ?_)
          go_simp
          with_reducible refine (HRL.out _ HBq.out).mono ?_
          rintro e w5 ⟨k', s', aF, nF, cF, aL, nL, cL, x', rfl, hb⟩
          have HB5 := Lib.hid (HB2q.out.trans (hb.mono HB2q.out.size))
          obtain ⟨s0, s1⟩ := HS0
          have HS5 := And.intro ((hb.cell (World.block_lt_of_cell? _ _ s0)).trans s0) ((hb.cell (World.block_lt_of_cell? _ _ s1)).trans s1)
          clear hb
          refine hK _ _ (fun _ => HS5) ?_
          clear hK K
          try simp only [Act.put, List.setIfInBounds_toArray, List.set_cons_zero, List.set_cons_succ]
          have hfd : ∀ W : World, (Instr.field 75 (.agg #[.int .i64 k', .string ⟨List.toArray s'⟩, .slice aF nF cF, .slice aL nL cL, .int .i64 x', .bool hq]) 1).run Tryd.prog W = .ok (.bool hq) W := fun W => got_field k' s' aF nF cF aL nL cL x' hq W
          refine wpAnyL_take (i := 7) (some 34) (v := .bool hq) rfl rfl (by kernel_rfl) (by kernel_rfl) (by kernel_rfl) (by kernel_rfl) (fun _ _ _ h => h) (by rfl) (fun W hS => ?_) HS5 ?_
          · obtain ⟨m0, m1⟩ := hS
            go_simp
          try simp only [Act.put, List.setIfInBounds_toArray, List.set_cons_zero, List.set_cons_succ]
          refine wpAnyL_done (by kernel_rfl) ?_ _
          cases hq with
          | true =>
            go_wp2_with fail
            go_roundw
            case rel => exact ⟨k + 1, c + 1, by omega, by omega, by go_num, by go_num, Lib.hid (by rw [HCN.out]; rfl), HZ, HB5⟩
            case measure => simp [intOf]; omega
          | false =>
            go_wp2_with fail
            go_roundw
            case rel => exact ⟨k + 1, c, by omega, by omega, rfl, by go_num, Lib.hid (by rw [HCN.out]; rfl), HZ, HB5⟩
            case measure => simp [intOf]; omega
        · have c1 : decide (0 < n) = false := decide_eq_false h2
          clear h1
          go_upto_region 5 with (fail)
          go_quiet (fail)
          go_upto_region 7 with (fail)
          obtain ⟨wq, hwq⟩ : ∃ wq, wr.drewN nq = wq := ⟨_, rfl⟩
          rw [hwq]
          have hbq : Below wr.heap.size wr wq.drew := by rw [← hwq]; exact (below_drewN (Below.refl _ _) _).drew
          have HBq := Lib.hid (HBw.out.trans (hbq.mono HBw.out.size))
          have HB2q := Lib.hid (HBr.out.trans (hbq.mono HBr.out.size))
          obtain ⟨-, -, -, x6, -⟩ := (HXr.out.later hbq (by omega)).few
          have HS0 : wq.drew.cell? ⟨w.heap.size, 6, none⟩ = some (.slice nv.db.a nv.db.n nv.db.c) ∧ wq.drew.cell? ⟨bK, oK + k, none⟩ = some (.string ⟨y.toArray⟩) := ⟨x6, (hbq.cell (p := ⟨bK, oK + k, none⟩) (by have := HBw.out.size; simp only; omega)).trans ck⟩
          clear hwq hbq x6 ck m0 m1 m2 m3
          refine wp_region_L (S := fun W => W.cell? ⟨w.heap.size, 6, none⟩ = some (.slice nv.db.a nv.db.n nv.db.c) ∧ W.cell? ⟨bK, oK + k, none⟩ = some (.string ⟨y.toArray⟩)) (f := 8) (by kernel_rfl) ?_
          refine wpAnyL_take (i := 0) (some 27) (v := .pointer (some ⟨w.heap.size, 6, none⟩)) rfl rfl (by kernel_rfl) (by kernel_rfl) (by kernel_rfl) (by kernel_rfl) (fun _ _ _ h => h) (by rfl) (fun W hS => ?_) HS0 ?_
          · obtain ⟨m0, m1⟩ := hS
            go_simp
          try simp only [Act.put, List.setIfInBounds_toArray, List.set_cons_zero, List.set_cons_succ]
          refine wpAnyL_take (i := 1) (some 28) (v := .slice nv.db.a nv.db.n nv.db.c) rfl rfl (by kernel_rfl) (by kernel_rfl) (by kernel_rfl) (by kernel_rfl) (fun _ _ _ h => h) (by rfl) (fun W hS => ?_) HS0 ?_
          · obtain ⟨m0, m1⟩ := hS
            go_simp
          try simp only [Act.put, List.setIfInBounds_toArray, List.set_cons_zero, List.set_cons_succ]
          refine wpAnyL_take (i := 2) (some 29) (v := .slice (some ⟨bK, oK, none⟩) ks.length cK) rfl rfl (by kernel_rfl) (by kernel_rfl) (by kernel_rfl) (by kernel_rfl) (fun _ _ _ h => h) (by rfl) (fun W hS => ?_) HS0 ?_
          · obtain ⟨m0, m1⟩ := hS
            go_simp
          try simp only [Act.put, List.setIfInBounds_toArray, List.set_cons_zero, List.set_cons_succ]
          refine wpAnyL_take (i := 3) (some 30) (v := .int .i64 k) rfl rfl (by kernel_rfl) (by kernel_rfl) (by kernel_rfl) (by kernel_rfl) (fun _ _ _ h => h) (by rfl) (fun W hS => ?_) HS0 ?_
          · obtain ⟨m0, m1⟩ := hS
            go_simp
          try simp only [Act.put, List.setIfInBounds_toArray, List.set_cons_zero, List.set_cons_succ]
          refine wpAnyL_take (i := 4) (some 31) (v := .pointer (some ⟨bK, oK + k, none⟩)) rfl rfl (by kernel_rfl) (by kernel_rfl) (by kernel_rfl) (by kernel_rfl) (fun _ _ _ h => h) (by rfl) (fun W hS => ?_) HS0 ?_
          · obtain ⟨m0, m1⟩ := hS
            go_simp
          try simp only [Act.put, List.setIfInBounds_toArray, List.set_cons_zero, List.set_cons_succ]
          refine wpAnyL_take (i := 5) (some 32) (v := .string ⟨y.toArray⟩) rfl rfl (by kernel_rfl) (by kernel_rfl) (by kernel_rfl) (by kernel_rfl) (fun _ _ _ h => h) (by rfl) (fun W hS => ?_) HS0 ?_
          · obtain ⟨m0, m1⟩ := hS
            go_simp
          try simp only [Act.put, List.setIfInBounds_toArray, List.set_cons_zero, List.set_cons_succ]
          refine wpAnyL_one (j := 6) (by kernel_rfl) rfl (by rfl) (fun K hK => ?_)
          go_simp
          with_reducible refine (HRL.out _ HBq.out).mono ?_
          rintro e w5 ⟨k', s', aF, nF, cF, aL, nL, cL, x', rfl, hb⟩
          have HB5 := Lib.hid (HB2q.out.trans (hb.mono HB2q.out.size))
          obtain ⟨s0, s1⟩ := HS0
          have HS5 := And.intro ((hb.cell (World.block_lt_of_cell? _ _ s0)).trans s0) ((hb.cell (World.block_lt_of_cell? _ _ s1)).trans s1)
          clear hb
          refine hK _ _ (fun _ => HS5) ?_
          clear hK K
          try simp only [Act.put, List.setIfInBounds_toArray, List.set_cons_zero, List.set_cons_succ]
          have hfd : ∀ W : World, (Instr.field 75 (.agg #[.int .i64 k', .string ⟨List.toArray s'⟩, .slice aF nF cF, .slice aL nL cL, .int .i64 x', .bool hq]) 1).run Tryd.prog W = .ok (.bool hq) W := fun W => got_field k' s' aF nF cF aL nL cL x' hq W
          refine wpAnyL_take (i := 7) (some 34) (v := .bool hq) rfl rfl (by kernel_rfl) (by kernel_rfl) (by kernel_rfl) (by kernel_rfl) (fun _ _ _ h => h) (by rfl) (fun W hS => ?_) HS5 ?_
          · obtain ⟨m0, m1⟩ := hS
            go_simp
          try simp only [Act.put, List.setIfInBounds_toArray, List.set_cons_zero, List.set_cons_succ]
          refine wpAnyL_done (by kernel_rfl) ?_ _
          cases hq with
          | true =>
            go_wp2_with fail
            go_roundw
            case rel => exact ⟨k + 1, c + 1, by omega, by omega, by go_num, by go_num, Lib.hid (by rw [HCN.out]; rfl), HZ, HB5⟩
            case measure => simp [intOf]; omega
          | false =>
            go_wp2_with fail
            go_roundw
            case rel => exact ⟨k + 1, c, by omega, by omega, rfl, by go_num, Lib.hid (by rw [HCN.out]; rfl), HZ, HB5⟩
            case measure => simp [intOf]; omega
    · obtain rfl : k = ks.length := by omega
      have HZ := Lib.hid (HEND.out HS.out)
      rw [HC.out] at HZ
      have q1 : ¬ (ks.length : Int) < (ks.length : Int) := by omega
      by_cases e1 : c = ks.length
      · have c1 : ((c : Int) == (ks.length : Int)) = true := by rw [beq_iff_eq]; omega
        have HY := Lib.hid (show R = [] by rw [HZ.out, if_pos e1])
        clear HZ
        go_wp2_with fail
        go_ret
        exact ⟨by rw [HY.out]; rfl, HBw.out⟩
      · have c1 : ((c : Int) == (ks.length : Int)) = false := by rw [beq_eq_false_iff_ne]; omega
        by_cases e2 : c = 0
        · have c2 : ((c : Int) == 0) = true := by rw [beq_iff_eq]; omega
          have HY := Lib.hid (show R = Rt.ask ++ 32 :: (S ++ 32 :: T) by rw [HZ.out, if_neg e1, if_pos e2])
          clear HZ e1 e2
          go_upto_region 13 with (fail)
          have HS0 : wr.drew.cell? ⟨w1.heap.size, 0, none⟩ = some (.int .i64 s) ∧ wr.drew.cell? ⟨w1.heap.size, 1, none⟩ = some (.int .i64 t) := ⟨(World.cell?_drew _ _).trans m0, (World.cell?_drew _ _).trans m1⟩
          have HBq := Lib.hid (HBw.out.drew)
          clear m0 m1 m2 m3
          refine wp_region_L (S := fun W => W.cell? ⟨w1.heap.size, 0, none⟩ = some (.int .i64 s) ∧ W.cell? ⟨w1.heap.size, 1, none⟩ = some (.int .i64 t)) (f := 9) (by kernel_rfl) ?_
          refine wpAnyL_take (i := 0) (some 44) (v := .pointer (some ⟨w1.heap.size, 0, none⟩)) rfl rfl (by kernel_rfl) (by kernel_rfl) (by kernel_rfl) (by kernel_rfl) (fun _ _ _ h => h) (by rfl) (fun W hS => ?_) HS0 ?_
          · obtain ⟨m0, m1⟩ := hS
            go_simp
          try simp only [Act.put, List.setIfInBounds_toArray, List.set_cons_zero, List.set_cons_succ]
          refine wpAnyL_take (i := 1) (some 45) (v := .int .i64 s) rfl rfl (by kernel_rfl) (by kernel_rfl) (by kernel_rfl) (by kernel_rfl) (fun _ _ _ h => h) (by rfl) (fun W hS => ?_) HS0 ?_
          · obtain ⟨m0, m1⟩ := hS
            go_simp
          try simp only [Act.put, List.setIfInBounds_toArray, List.set_cons_zero, List.set_cons_succ]
          refine wpAnyL_take (i := 5) (some 49) (v := .pointer (some ⟨w1.heap.size, 1, none⟩)) rfl rfl (by kernel_rfl) (by kernel_rfl) (by kernel_rfl) (by kernel_rfl) (fun _ _ _ h => h) (by rfl) (fun W hS => ?_) HS0 ?_
          · obtain ⟨m0, m1⟩ := hS
            go_simp
          try simp only [Act.put, List.setIfInBounds_toArray, List.set_cons_zero, List.set_cons_succ]
          refine wpAnyL_take (i := 6) (some 50) (v := .int .i64 t) rfl rfl (by kernel_rfl) (by kernel_rfl) (by kernel_rfl) (by kernel_rfl) (fun _ _ _ h => h) (by rfl) (fun W hS => ?_) HS0 ?_
          · obtain ⟨m0, m1⟩ := hS
            go_simp
          try simp only [Act.put, List.setIfInBounds_toArray, List.set_cons_zero, List.set_cons_succ]
          refine wpAnyL_one (j := 2) (by kernel_rfl) rfl (by rfl) (fun K hK => ?_)
          go_simp
          with_reducible refine (HDS.out _).mono ?_
          rintro e v6 ⟨rfl, hb⟩
          have HB6 := Lib.hid (HBq.out.trans (hb.mono HBq.out.size))
          obtain ⟨s0, s1⟩ := HS0
          have HS6 := And.intro ((hb.cell (World.block_lt_of_cell? _ _ s0)).trans s0) ((hb.cell (World.block_lt_of_cell? _ _ s1)).trans s1)
          clear hb
          refine hK _ _ (fun _ => HS6) ?_
          clear hK K
          try simp only [Act.put, List.setIfInBounds_toArray, List.set_cons_zero, List.set_cons_succ]
          refine wpAnyL_take (i := 3) (some 47) (v := .string ((⟨#[65, 83, 75, 32]⟩ : ByteArray) ++ ⟨S.toArray⟩)) rfl rfl (by kernel_rfl) (by kernel_rfl) (by kernel_rfl) (by kernel_rfl) (fun _ _ _ h => h) (by rfl) (fun W hS => ?_) HS6 ?_
          · obtain ⟨m0, m1⟩ := hS
            go_simp
            omega
          try simp only [Act.put, List.setIfInBounds_toArray, List.set_cons_zero, List.set_cons_succ]
          refine wpAnyL_take (i := 4) (some 48) (v := .string ((⟨#[65, 83, 75, 32]⟩ : ByteArray) ++ ⟨S.toArray⟩ ++ ⟨#[32]⟩)) rfl rfl (by kernel_rfl) (by kernel_rfl) (by kernel_rfl) (by kernel_rfl) (fun _ _ _ h => h) (by rfl) (fun W hS => ?_) HS6 ?_
          · obtain ⟨m0, m1⟩ := hS
            go_simp
            omega
          try simp only [Act.put, List.setIfInBounds_toArray, List.set_cons_zero, List.set_cons_succ]
          refine wpAnyL_one (j := 7) (by kernel_rfl) rfl (by rfl) (fun K hK => ?_)
          go_simp
          with_reducible refine (HDT.out _).mono ?_
          rintro e v7 ⟨rfl, hb⟩
          have HB7 := Lib.hid (HB6.out.trans (hb.mono HB6.out.size))
          obtain ⟨s0, s1⟩ := HS6
          have HS7 := And.intro ((hb.cell (World.block_lt_of_cell? _ _ s0)).trans s0) ((hb.cell (World.block_lt_of_cell? _ _ s1)).trans s1)
          clear hb
          refine hK _ _ (fun _ => HS7) ?_
          clear hK K
          try simp only [Act.put, List.setIfInBounds_toArray, List.set_cons_zero, List.set_cons_succ]
          refine wpAnyL_take (i := 8) (some 52) (v := .string ((⟨#[65, 83, 75, 32]⟩ : ByteArray) ++ ⟨S.toArray⟩ ++ ⟨#[32]⟩ ++ ⟨T.toArray⟩)) rfl rfl (by kernel_rfl) (by kernel_rfl) (by kernel_rfl) (by kernel_rfl) (fun _ _ _ h => h) (by rfl) (fun W hS => ?_) HS7 ?_
          · obtain ⟨m0, m1⟩ := hS
            go_simp
            omega
          try simp only [Act.put, List.setIfInBounds_toArray, List.set_cons_zero, List.set_cons_succ]
          refine wpAnyL_one (j := 9) (by kernel_rfl) rfl (by rfl) (fun K hK => ?_)
          go_simp
          refine hK _ _ (fun h => (h rfl).elim) ?_
          clear hK K
          try simp only [Act.put, List.setIfInBounds_toArray, List.set_cons_zero, List.set_cons_succ]
          refine wpAnyL_done (by kernel_rfl) ?_ _
          go_wp2_with fail
          go_ret
          refine ⟨?_, HB7.out⟩
          rw [HY.out]
          have e1 : (⟨#[65, 83, 75, 32]⟩ : ByteArray) ++ ⟨S.toArray⟩ ++ ⟨#[32]⟩ ++ ⟨T.toArray⟩ = ⟨(Rt.ask ++ 32 :: (S ++ 32 :: T)).toArray⟩ := by
            apply ByteArray.ext; simp [Rt.ask]
          rw [← e1]
          rfl
        · have c2 : ((c : Int) == 0) = false := by rw [beq_eq_false_iff_ne]; omega
          have HY := Lib.hid (show R = Rt.again by rw [HZ.out, if_neg e1, if_neg e2])
          clear HZ e1 e2
          go_wp2_with fail
          go_ret
          exact ⟨by rw [HY.out]; rfl, HBw.out⟩
end Go.Proofs.YtahmddopbmjepaaDoor
