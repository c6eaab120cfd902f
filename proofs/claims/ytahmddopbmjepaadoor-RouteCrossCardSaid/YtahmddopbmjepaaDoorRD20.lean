/- The contracts of the program's atOwner and of slices.IndexFunc over moves (14.1). The contracts of strings.Cut at one byte, slot.Tag. The contract of slot.Of. -/
import Derived.Test.YtahmddopbmjepaaDoorRD19
import Derived.Test.YtahmddopbmjepaaDoorRD14
import Derived.Test.YtahmddopbmjepaaDoorRD13
import Derived.Test.YtahmddopbmjepaaDoorRD01
import Derived.WalkKit
import Derived.WalkLawsBesides
import Derived.WalkSpells
import Derived.Lib.Hide
import Derived.Outline
import Derived.Below
import Derived.Deep.QuietTactic
import Derived.BigQuiet
import Derived.Lib.IndexBytes
import Derived.Test.YtahmddopbmjepaaDoorRD04
import Derived.Test.YtahmddopbmjepaaDoorRD03
import Derived.Lib.SlBytesConst
import Derived.Lib.ConvBytes
import Derived.Laws.IdiomStrings
namespace Go.Proofs.YtahmddopbmjepaaDoor
open Go.RowKit Go.Shelf
attribute [local go_sem] Oper.semAt_some
set_option linter.unusedVariables false
set_option linter.unusedSimpArgs false

/-- one int in a block of its own. -/
def IBox (w : World) (B : Nat) (n : Int) : Prop := w.heap[B]? = some (.cells #[.int .i64 n] 3 (0, 0))
theorem IBox.new (w : World) (n : Int) : IBox (w.alloc (.cells #[.int .i64 n] 3)) w.heap.size n := World.alloc_heap_new w _
theorem IBox.later {w w' : World} {B n0 : Nat} {n : Int} (h : IBox w B n) (hb : Below n0 w w') (hB : B < n0) : IBox w' B n := (hb.block B hB).trans h
theorem IBox.at {w : World} {B : Nat} {n : Int} (h : IBox w B n) : w.cell? ⟨B, 0, none⟩ = some (.int .i64 n) := by
  unfold IBox at h
  simp [World.cell?, h]
theorem IBox.lt {w : World} {B : Nat} {n : Int} (h : IBox w B n) : B < w.heap.size := (Array.getElem?_eq_some_iff.1 h).1

set_option maxRecDepth 100000 in
set_option maxHeartbeats 2000000 in
theorem isSlot_any (m : Rt.Mv) (B : Nat) (n : Int) (w : World) (hB : IBox w B n) :
    Calls Tryd.prog 50 #[.agg #[.int .i64 m.s, .int .i64 m.t, .int .i64 m.n, .string ⟨m.k.toArray⟩], .pointer (some ⟨B, 0, none⟩)] w fun e w' => e = .returned (.bool (m.s == n)) ∧ Below w.heap.size w w' := by
  obtain ⟨s, t, k, key⟩ := m
  obtain ⟨w1, hw1⟩ : ∃ w1, w.alloc (.cells #[.int .i64 s, .int .i64 t, .int .i64 k, .string ⟨key.toArray⟩] 61) = w1 := ⟨_, rfl⟩
  have hb1 : Below w.heap.size w w1 := by rw [← hw1]; exact (Below.refl _ w).alloc (Nat.le_refl _) _
  have c0 := (hB.later hb1 hB.lt).at
  obtain ⟨m0, m1, m2, m3⟩ := (show MvBox w1 w.heap.size s t k key by rw [← hw1]; exact MvBox.new w s t k key).at
  have HB1 := Lib.hid hb1
  clear hb1 hB
  go_enter Tryd.func50, Tryd.ntmps50
  go_wp2
  go_ret
  exact ⟨rfl, HB1.out⟩

/-- where IndexFunc ends. -/
def IxOut (l : List Rt.Mv) (n : Int) (w : World) (e : Ending) (w' : World) : Prop :=
  (∃ r : Int, e = .returned (.int .i64 r) ∧ ((r = -1 ∧ l.find? (fun m => decide (m.s = n)) = none) ∨ ∃ i : Nat, r = i ∧ i < l.length ∧ l.find? (fun m => decide (m.s = n)) = some (l.getD i Rt.Mv.zero))) ∧ Below w.heap.size w w'
theorem mv_find_none {l : List Rt.Mv} {n : Int} (h : ∀ j, j < l.length → (l.getD j Rt.Mv.zero).s ≠ n) : l.find? (fun m => decide (m.s = n)) = none := by
  rw [List.find?_eq_none]
  intro m hm
  obtain ⟨j, hj, rfl⟩ := List.getElem_of_mem hm
  have := h j hj
  rw [getD_eq hj] at this
  simpa using this
theorem mv_find_some {n : Int} : ∀ {l : List Rt.Mv} {i : Nat}, i < l.length → (∀ j, j < i → (l.getD j Rt.Mv.zero).s ≠ n) → (l.getD i Rt.Mv.zero).s = n → l.find? (fun m => decide (m.s = n)) = some (l.getD i Rt.Mv.zero)
  | [], i, h, _, _ => by simp at h
  | m :: l, 0, _, _, h => by
    rw [List.find?_cons_of_pos]
    · rfl
    · simpa using h
  | m :: l, i + 1, hi, h0, h => by
    have hm := h0 0 (by omega)
    rw [List.find?_cons_of_neg]
    · have := mv_find_some (l := l) (i := i) (n := n) (by simpa using hi) (fun j hj => by have := h0 (j + 1) (by omega); simpa using this) (by simpa using h)
      rw [this]
      simp
    · simpa using hm

set_option maxRecDepth 100000 in
set_option maxHeartbeats 4000000 in
theorem mvIndex_any (B : Nat) (a : Option Addr) (cap : Nat) (l : List Rt.Mv) (n : Int) (w : World) (hB : IBox w B n) (hl : l.length ≤ 1000000) (hM : Mvs w a cap l) :
    Calls Tryd.prog 49 #[.slice a l.length cap, .func (.func 50) #[] #[.pointer (some ⟨B, 0, none⟩)]] w (IxOut l n w) := by
  have HM := Lib.hid hM
  have HBX := Lib.hid hB
  have hnI : (l.length : Int) ≤ 1000000 := by omega
  clear hM hB
  have eg : ∀ args w, (callFunc 50 args).run Tryd.prog w = .ok (.enter 50 args) w := enters_of Tryd.func50 (by kernel_rfl) rfl
  go_enter Tryd.func49, Tryd.ntmps49
  go_wp2
  go_loopw [4, 8] (fun r i wr => ∃ k : Nat, k ≤ l.length ∧ r = .int .i64 0 ∧ i = .int .i64 k ∧ Hid (∀ j, j < k → (l.getD j Rt.Mv.zero).s ≠ n) ∧ Hid (Below w.heap.size w wr)) (fun _ i _ => l.length - (intOf i).toNat)
  case atStart => exact ⟨0, Nat.zero_le _, rfl, rfl, Lib.hid fun j h => by omega, Lib.hid (Below.refl _ _)⟩
  case round =>
    obtain ⟨k, hk, rfl, rfl, HK, HB⟩ := hrel
    by_cases hlt : k < l.length
    · obtain ⟨b, off, rfl, hb, hc⟩ := (HM.out.later HB.out).get (by omega)
      obtain ⟨c0, c1, c2, c3⟩ := hc k hlt
      have HH : Hid ((l.getD k Rt.Mv.zero).s = n → l.find? (fun m => decide (m.s = n)) = some (l.getD k Rt.Mv.zero)) := Lib.hid (mv_find_some hlt HK.out)
      have HN : Hid ((l.getD k Rt.Mv.zero).s ≠ n → ∀ j, j < k + 1 → (l.getD j Rt.Mv.zero).s ≠ n) := Lib.hid fun h j hj => by
        rcases Nat.lt_or_ge j k with h' | h'
        · exact HK.out j h'
        · rw [show j = k by omega]; exact h
      have hcl := isSlot_any (l.getD k Rt.Mv.zero) B n wr (HBX.out.later HB.out HBX.out.lt)
      obtain ⟨⟨s, t, q, key⟩, hm⟩ : ∃ m, l.getD k Rt.Mv.zero = m := ⟨_, rfl⟩
      rw [hm] at c0 c1 c2 c3 HN hcl
      simp only at c0 c1 c2 c3 hcl
      have k0 : (0 : Int) ≤ (k : Int) := by omega
      have k1 : (k : Int) < (l.length : Int) := by omega
      by_cases he : s = n
      · rw [show (s == n) = true by rw [beq_iff_eq]; exact he] at hcl
        have HA := Lib.hid (HH.out (by rw [hm]; exact he))
        have HCL := Lib.hid hcl
        clear hcl hm he hc HH HN
        go_wp2_with fail
        refine (HCL.out).mono ?_
        rintro e w1 ⟨rfl, hb1⟩
        have HB1 := Lib.hid (HB.out.trans (hb1.mono HB.out.size))
        clear hb1
        go_wp2_with fail
        go_ret
        exact ⟨⟨(k : Int), rfl, .inr ⟨k, rfl, hlt, HA.out⟩⟩, HB1.out⟩
      · rw [show (s == n) = false by rw [beq_eq_false_iff_ne]; exact he] at hcl
        have HA := Lib.hid (HN.out he)
        have HCL := Lib.hid hcl
        clear hcl hm he hc HH HN
        go_wp2_with fail
        refine (HCL.out).mono ?_
        rintro e w1 ⟨rfl, hb1⟩
        have HB1 := Lib.hid (HB.out.trans (hb1.mono HB.out.size))
        clear hb1
        go_wp2_with fail
        go_roundw
        case rel => exact ⟨k + 1, by omega, rfl, by go_num, HA, HB1⟩
        case measure => simp [intOf]; omega
    · have HA := Lib.hid (mv_find_none (l := l) (n := n) fun j hj => HK.out j (by omega))
      have k1 : ¬ (k : Int) < (l.length : Int) := by omega
      go_wp2_with fail
      go_ret
      exact ⟨⟨-1, rfl, .inl ⟨rfl, HA.out⟩⟩, HB.out⟩

set_option maxRecDepth 100000 in
set_option maxHeartbeats 8000000 in
theorem atOwner_any (n : NV) (d : Rt.Nd) (ps : List Lp) (x : Int) (aK : Option Addr) (cK : Nat) (ks : List (List UInt8)) (w : World) (hE : Env w) (hN : Node w n d ps) (hn : ps.length ≤ 1000000) (hu : AscL ps) (hsm : ∀ p ∈ ps, p.p.Sm) (hm : d.mv.length ≤ 1000000)
    (hK : Wds w aK cK ks) (hk0 : 0 < ks.length) (hk1 : ks.length ≤ 1000000) :
    Calls Tryd.prog 28 #[.agg n.cells, .int .i64 x, .slice aK ks.length cK] w fun e w' => e = .returned (.string ⟨(Rt.ownerS d x ks).toArray⟩) ∧ Below w.heap.size w w' := by
  obtain ⟨w1, hw1⟩ : ∃ w1, w.alloc (.cells n.cells 36) = w1 := ⟨_, rfl⟩
  obtain ⟨w2, hw2⟩ : ∃ w2, w1.alloc (.cells #[.int .i64 x] 3) = w2 := ⟨_, rfl⟩
  have hx1 : NdBox w1 w.heap.size n := by rw [← hw1]; exact NdBox.new w n
  have hB1 : Below w.heap.size w w1 := by rw [← hw1]; exact (Below.refl _ w).alloc (Nat.le_refl _) _
  have hlt1 : w.heap.size < w1.heap.size := by rw [← hw1]; simp
  have hx2 : IBox w2 w1.heap.size x := by rw [← hw2]; exact IBox.new w1 x
  have hB2 : Below w1.heap.size w1 w2 := by rw [← hw2]; exact (Below.refl _ w1).alloc (Nat.le_refl _) _
  have hB12 := hB1.trans (hB2.mono hB1.size)
  have hx12 := hx1.later hB2 hlt1
  have hlt2 := hx2.lt
  obtain ⟨R, hR⟩ : ∃ R, Rt.ownerS d x ks = R := ⟨_, rfl⟩
  rw [hR]
  have HIX := Lib.hid (mvIndex_any w1.heap.size n.mv.a n.mv.c d.mv x w2 hx2 hm (hN.mv.later hB12))
  have HNONE : Hid (d.mv.find? (fun m => decide (m.s = x)) = none → R = []) := Lib.hid fun h => by rw [← hR]; unfold Rt.ownerS; rw [h]
  have HSOME : Hid (∀ (i : Nat) (s t q : Int) (key : List UInt8) (W : World), i < d.mv.length → d.mv.getD i Rt.Mv.zero = ⟨s, t, q, key⟩ → d.mv.find? (fun m => decide (m.s = x)) = some (d.mv.getD i Rt.Mv.zero) → Below w.heap.size w W →
      Calls Tryd.prog 51 #[.slice n.db.a ps.length n.db.c, .agg #[.int .i64 s, .int .i64 t, .int .i64 q, .string ⟨key.toArray⟩], .slice aK ks.length cK] W fun e w' => e = .returned (.string ⟨R.toArray⟩) ∧ Below W.heap.size W w') := Lib.hid fun i s t q key W hi hm hf hb => by
    have hok := hN.mv.ok hi
    rw [hm] at hok hf
    have h := atMove_any n.db.a n.db.c ps s t q key aK cK ks W (hE.later hb) (hN.db.later hb) hn hu hsm hok (hK.later hb) hk0 hk1
    rw [← hN.has] at h
    rw [← hR]
    unfold Rt.ownerS
    rw [hf]
    exact h
  have hml := hN.mvn
  have HMV := Lib.hid (hN.mv.later hB12)
  have HX := Lib.hid hx12
  have HB := Lib.hid hB12
  have hmI : (d.mv.length : Int) ≤ 1000000 := by omega
  have hpn := hN.dbn
  obtain ⟨-, -, -, z6, z7⟩ := hx12.few
  clear hx1 hx2 hB1 hB2 hB12 hx12 hR hN hE hu hsm hK
  go_enter Tryd.func28, Tryd.ntmps28
  go_upto_region 1 with (fail)
  go_wp2_with fail
  refine (HIX.out).mono ?_
  rintro e w3 ⟨⟨r, rfl, hr⟩, hb⟩
  have HB3 := Lib.hid (HB.out.trans (hb.mono HB.out.size))
  have HX3 := Lib.hid (HX.out.later hb (by omega))
  have HM3 := Lib.hid (HMV.out.later hb)
  obtain ⟨-, -, -, y6, y7⟩ := HX3.out.few
  clear hb z6 z7
  rcases hr with ⟨rfl, hr⟩ | ⟨i, rfl, hi, hr⟩
  · have HZ := Lib.hid (HNONE.out hr)
    clear hr
    go_wp2_with fail
    go_ret
    exact ⟨by rw [HZ.out]; rfl, HB3.out⟩
  · obtain ⟨b, off, hav, hbl, hc⟩ := HM3.out.get (by omega)
    obtain ⟨c0, c1, c2, c3⟩ := hc i hi
    have HS1 : Hid (∀ (s t q : Int) (key : List UInt8) (W : World), d.mv.getD i Rt.Mv.zero = ⟨s, t, q, key⟩ → Below w.heap.size w W → Calls Tryd.prog 51 #[.slice n.db.a ps.length n.db.c, .agg #[.int .i64 s, .int .i64 t, .int .i64 q, .string ⟨key.toArray⟩], .slice aK ks.length cK] W fun e w' => e = .returned (.string ⟨R.toArray⟩) ∧ Below W.heap.size W w') := Lib.hid fun s t q key W hm hb => HSOME.out i s t q key W hi hm hr hb
    obtain ⟨⟨s, t, q, key⟩, hm⟩ : ∃ m, d.mv.getD i Rt.Mv.zero = m := ⟨_, rfl⟩
    have HS2 : Hid (∀ W : World, Below w.heap.size w W → Calls Tryd.prog 51 #[.slice n.db.a ps.length n.db.c, .agg #[.int .i64 s, .int .i64 t, .int .i64 q, .string ⟨key.toArray⟩], .slice aK ks.length cK] W fun e w' => e = .returned (.string ⟨R.toArray⟩) ∧ Below W.heap.size W w') := Lib.hid fun W hb => HS1.out s t q key W hm hb
    rw [hm] at c0 c1 c2 c3
    simp only at c0 c1 c2 c3
    have k0 : (0 : Int) ≤ (i : Int) := by omega
    have k1 : (i : Int) < (d.mv.length : Int) := by omega
    have k2 : ¬ (i : Int) < 0 := by omega
    rw [hav] at y7
    clear hr hm hc HS1 HSOME HNONE HM3 HMV HIX
    go_upto_region 4 with (fail)
    have HS0 : w3.drew.cell? ⟨w.heap.size, 6, none⟩ = some (.slice n.db.a n.db.n n.db.c) ∧ w3.drew.cell? ⟨w.heap.size, 7, none⟩ = some (.slice (some ⟨b, off, none⟩) n.mv.n n.mv.c) ∧ w3.drew.cell? ⟨b, off + i * 4, none⟩ = some (.int .i64 s) ∧ w3.drew.cell? ⟨b, off + i * 4 + 1, none⟩ = some (.int .i64 t) ∧ w3.drew.cell? ⟨b, off + i * 4 + 2, none⟩ = some (.int .i64 q) ∧ w3.drew.cell? ⟨b, off + i * 4 + 3, none⟩ = some (.string ⟨key.toArray⟩) :=
      ⟨(World.cell?_drew _ _).trans y6, (World.cell?_drew _ _).trans y7, (World.cell?_drew _ _).trans c0, (World.cell?_drew _ _).trans c1, (World.cell?_drew _ _).trans c2, (World.cell?_drew _ _).trans c3⟩
    have HB4 := Lib.hid (HB3.out.drew)
    clear y6 y7 c0 c1 c2 c3
    refine wp_region_L (S := fun W => W.cell? ⟨w.heap.size, 6, none⟩ = some (.slice n.db.a n.db.n n.db.c) ∧ W.cell? ⟨w.heap.size, 7, none⟩ = some (.slice (some ⟨b, off, none⟩) n.mv.n n.mv.c) ∧ W.cell? ⟨b, off + i * 4, none⟩ = some (.int .i64 s) ∧ W.cell? ⟨b, off + i * 4 + 1, none⟩ = some (.int .i64 t) ∧ W.cell? ⟨b, off + i * 4 + 2, none⟩ = some (.int .i64 q) ∧ W.cell? ⟨b, off + i * 4 + 3, none⟩ = some (.string ⟨key.toArray⟩)) (f := 9) (by kernel_rfl) ?_
    refine wpAnyL_take (i := 0) (some 14) (v := .pointer (some ⟨w.heap.size, 6, none⟩)) rfl rfl (by kernel_rfl) (by kernel_rfl) (by kernel_rfl) (by kernel_rfl) (fun _ _ _ h => h) (by rfl) (fun W hS => ?_) HS0 ?_
    · obtain ⟨m0, m1, m2, m3, m4, m5⟩ := hS
      go_simp
    try simp only [Act.put, List.setIfInBounds_toArray, List.set_cons_zero, List.set_cons_succ]
    refine wpAnyL_take (i := 1) (some 15) (v := .slice n.db.a n.db.n n.db.c) rfl rfl (by kernel_rfl) (by kernel_rfl) (by kernel_rfl) (by kernel_rfl) (fun _ _ _ h => h) (by rfl) (fun W hS => ?_) HS0 ?_
    · obtain ⟨m0, m1, m2, m3, m4, m5⟩ := hS
      go_simp
    try simp only [Act.put, List.setIfInBounds_toArray, List.set_cons_zero, List.set_cons_succ]
    refine wpAnyL_take (i := 2) (some 16) (v := .pointer (some ⟨w.heap.size, 7, none⟩)) rfl rfl (by kernel_rfl) (by kernel_rfl) (by kernel_rfl) (by kernel_rfl) (fun _ _ _ h => h) (by rfl) (fun W hS => ?_) HS0 ?_
    · obtain ⟨m0, m1, m2, m3, m4, m5⟩ := hS
      go_simp
    try simp only [Act.put, List.setIfInBounds_toArray, List.set_cons_zero, List.set_cons_succ]
    refine wpAnyL_take (i := 3) (some 17) (v := .slice (some ⟨b, off, none⟩) n.mv.n n.mv.c) rfl rfl (by kernel_rfl) (by kernel_rfl) (by kernel_rfl) (by kernel_rfl) (fun _ _ _ h => h) (by rfl) (fun W hS => ?_) HS0 ?_
    · obtain ⟨m0, m1, m2, m3, m4, m5⟩ := hS
      go_simp
    try simp only [Act.put, List.setIfInBounds_toArray, List.set_cons_zero, List.set_cons_succ]
    refine wpAnyL_take (i := 4) (some 18) (v := .int .i64 i) rfl rfl (by kernel_rfl) (by kernel_rfl) (by kernel_rfl) (by kernel_rfl) (fun _ _ _ h => h) (by rfl) (fun W hS => ?_) HS0 ?_
    · obtain ⟨m0, m1, m2, m3, m4, m5⟩ := hS
      go_simp
    try simp only [Act.put, List.setIfInBounds_toArray, List.set_cons_zero, List.set_cons_succ]
    refine wpAnyL_take (i := 5) (some 19) (v := .pointer (some ⟨b, off + i * 4, none⟩)) rfl rfl (by kernel_rfl) (by kernel_rfl) (by kernel_rfl) (by kernel_rfl) (fun _ _ _ h => h) (by rfl) (fun W hS => ?_) HS0 ?_
    · obtain ⟨m0, m1, m2, m3, m4, m5⟩ := hS
      go_simp
    try simp only [Act.put, List.setIfInBounds_toArray, List.set_cons_zero, List.set_cons_succ]
    refine wpAnyL_take (i := 6) (some 20) (v := .agg #[.int .i64 s, .int .i64 t, .int .i64 q, .string ⟨key.toArray⟩]) rfl rfl (by kernel_rfl) (by kernel_rfl) (by kernel_rfl) (by kernel_rfl) (fun _ _ _ h => h) (by rfl) (fun W hS => ?_) HS0 ?_
    · obtain ⟨m0, m1, m2, m3, m4, m5⟩ := hS
      go_simp
    try simp only [Act.put, List.setIfInBounds_toArray, List.set_cons_zero, List.set_cons_succ]
    refine wpAnyL_take (i := 7) (some 21) (v := .slice aK ks.length cK) rfl rfl (by kernel_rfl) (by kernel_rfl) (by kernel_rfl) (by kernel_rfl) (fun _ _ _ h => h) (by rfl) (fun W hS => ?_) HS0 ?_
    · obtain ⟨m0, m1, m2, m3, m4, m5⟩ := hS
      go_simp
    try simp only [Act.put, List.setIfInBounds_toArray, List.set_cons_zero, List.set_cons_succ]
    refine wpAnyL_one (j := 8) (by kernel_rfl) rfl (by rfl) (fun K hK => ?_)
    go_simp
    with_reducible refine (HS2.out _ HB4.out).mono ?_
    rintro e w5 ⟨rfl, hb⟩
    have HB5 := Lib.hid (HB4.out.trans (hb.mono HB4.out.size))
    obtain ⟨s0, s1, s2, s3, s4, s5⟩ := HS0
    have HS5 := And.intro ((hb.cell (World.block_lt_of_cell? _ _ s0)).trans s0) (And.intro ((hb.cell (World.block_lt_of_cell? _ _ s1)).trans s1) (And.intro ((hb.cell (World.block_lt_of_cell? _ _ s2)).trans s2) (And.intro ((hb.cell (World.block_lt_of_cell? _ _ s3)).trans s3) (And.intro ((hb.cell (World.block_lt_of_cell? _ _ s4)).trans s4) ((hb.cell (World.block_lt_of_cell? _ _ s5)).trans s5)))))
    clear hb
    refine hK _ _ (fun _ => HS5) ?_
    clear hK K
    try simp only [Act.put, List.setIfInBounds_toArray, List.set_cons_zero, List.set_cons_succ]
    refine wpAnyL_one (j := 9) (by kernel_rfl) rfl (by rfl) (fun K hK => ?_)
    go_simp
    refine hK _ _ (fun h => (h rfl).elim) ?_
    clear hK K
    try simp only [Act.put, List.setIfInBounds_toArray, List.set_cons_zero, List.set_cons_succ]
    refine wpAnyL_done (by kernel_rfl) ?_ _
    go_wp2_with fail
    go_ret
    exact ⟨rfl, HB5.out⟩
end Go.Proofs.YtahmddopbmjepaaDoor
namespace Go.Proofs.YtahmddopbmjepaaDoor
open Go.RowKit

theorem tag_walk (s : ByteArray) (w : World) (hs : s.size ≤ maxLen) :
    Calls Tryd.prog 59 #[.string s] w fun e w' => e = .returned (.string ⟨(Tags.tag s.data.toList).toArray⟩) ∧ Below w.heap.size w w' := by
  cases h1 : Tags.split 123 s.data.toList with
  | none =>
    have ht : (⟨(Tags.tag s.data.toList).toArray⟩ : ByteArray) = s := str_eq' (by unfold Tags.tag; rw [h1])
    have HT := Lib.hid ht
    have H1 := Lib.hid h1
    clear ht h1
    go_enter Tryd.func59, Tryd.ntmps59
    go_wp2_with fail
    refine (cut_none s 123 _ H1.out).mono ?_
    rintro e w' ⟨rfl, rfl⟩
    go_wp2
    go_ret
    exact ⟨by rw [HT.out]; rfl, Below.refl _ _⟩
  | some p =>
    obtain ⟨a, b⟩ := p
    have hab := (Tags.split_some h1).1
    have hbl : (⟨b.toArray⟩ : ByteArray).size ≤ maxLen := by
      have := congrArg List.length hab
      simp at this
      have h3 : (⟨b.toArray⟩ : ByteArray).size = b.length := rfl
      rw [h3]; omega
    cases h2 : Tags.split 125 b with
    | none =>
      have ht : (⟨(Tags.tag s.data.toList).toArray⟩ : ByteArray) = s := str_eq' (by unfold Tags.tag; rw [h1]; simp only; rw [h2])
      have HT := Lib.hid ht
      have H1 := Lib.hid h1
      have H2 := Lib.hid h2
      have HL := Lib.hid hbl
      clear ht h1 h2 hab hbl
      go_enter Tryd.func59, Tryd.ntmps59
      go_wp2_with fail
      refine (cut_some s 123 a b _ hs H1.out).mono ?_
      rintro e w' ⟨rfl, hb⟩
      have HB := Lib.hid hb
      clear hb
      go_wp2_with fail
      refine (cut_none ⟨b.toArray⟩ 125 _ H2.out).mono ?_
      rintro e w' ⟨rfl, rfl⟩
      go_wp2
      go_ret
      exact ⟨by rw [HT.out]; rfl, HB.out⟩
    | some q =>
      obtain ⟨t, r⟩ := q
      by_cases h0 : t = []
      · subst h0
        have ht : (⟨(Tags.tag s.data.toList).toArray⟩ : ByteArray) = s := str_eq' (by unfold Tags.tag; rw [h1]; simp only; rw [h2]; simp)
        have HT := Lib.hid ht
        have H1 := Lib.hid h1
        have H2 := Lib.hid h2
        have HL := Lib.hid hbl
        clear ht h1 h2 hab hbl
        go_enter Tryd.func59, Tryd.ntmps59
        go_wp2_with fail
        refine (cut_some s 123 a b _ hs H1.out).mono ?_
        rintro e w1 ⟨rfl, hb⟩
        have HB := Lib.hid hb
        clear hb
        go_wp2_with fail
        refine (cut_some ⟨b.toArray⟩ 125 [] r _ HL.out H2.out).mono ?_
        rintro e w2 ⟨rfl, hb⟩
        have HB2 := Lib.hid hb
        clear hb
        go_wp2
        go_ret
        exact ⟨by rw [HT.out]; rfl, HB.out.trans (HB2.out.mono HB.out.size)⟩
      · have ht : (⟨(Tags.tag s.data.toList).toArray⟩ : ByteArray) = ⟨t.toArray⟩ := by unfold Tags.tag; rw [h1]; simp only; rw [h2]; simp only; rw [if_neg h0]
        have HT := Lib.hid ht
        have H1 := Lib.hid h1
        have H2 := Lib.hid h2
        have HL := Lib.hid hbl
        have h0' : t.isEmpty = false := by cases t <;> simp_all
        clear ht h1 h2 hab hbl
        go_enter Tryd.func59, Tryd.ntmps59
        go_wp2_with fail
        refine (cut_some s 123 a b _ hs H1.out).mono ?_
        rintro e w1 ⟨rfl, hb⟩
        have HB := Lib.hid hb
        clear hb
        go_wp2_with fail
        refine (cut_some ⟨b.toArray⟩ 125 t r _ HL.out H2.out).mono ?_
        rintro e w2 ⟨rfl, hb⟩
        have HB2 := Lib.hid hb
        clear hb
        go_wp2
        go_ret
        exact ⟨by rw [HT.out]; rfl, HB.out.trans (HB2.out.mono HB.out.size)⟩

end Go.Proofs.YtahmddopbmjepaaDoor
namespace Go.Proofs.YtahmddopbmjepaaDoor
open Go.RowKit

theorem below_bytesWorld (w : World) (e : TypeId) (s : ByteArray) : Below w.heap.size w (Lib.bytesWorld w e s) :=
  ⟨rfl, rfl, rfl, by rw [Lib.bytesWorld_size]; omega, fun k hk => Lib.bytesWorld_at_old w e s k hk⟩

theorem bytes_bytesWorld (w : World) (e : TypeId) (s : ByteArray) : Bytes (Lib.bytesWorld w e s) (some ⟨w.heap.size, 0, none⟩) s.data.toList :=
  .inr ⟨_, 0, rfl, fun k hk => by
    rw [Nat.zero_add]
    exact Lib.bytesWorld_cell w e s k (by simpa using hk)⟩

theorem crc_str (s : ByteArray) (a : Option Addr) (cap : Nat) (w : World) (hs : s.size ≤ maxLen) (hb : Bytes w a s.data.toList) :
    Calls Tryd.prog 58 #[.slice a s.size cap] w fun e w' => e = .returned (.int .i64 (Crc16.crc s.data.toList)) ∧ w = w' := by
  have e : s.size = s.data.toList.length := by simp
  rw [e]
  refine crc_any a cap _ w ?_ hb
  unfold maxLen at hs
  simp; omega

set_option maxHeartbeats 400000 in
theorem of_walk (s : ByteArray) (w : World) (hs : s.size ≤ maxLen) :
    Calls Tryd.prog 46 #[.string s] w fun e w' => e = .returned (.int .i64 (slotOf s.data.toList)) ∧ Below w.heap.size w w' := by
  have hconv := fun (w : World) (s : ByteArray) => Lib.run_convert_string_bytes (P := Tryd.prog) w 9 50 5 s Tryd.underlying9 Tryd.underlying50 Tryd.underlying5
  have htl : (Tags.tag s.data.toList).length ≤ 9223372036854775807 := by
    have := Tags.tag_len s.data.toList
    unfold maxLen at hs
    simp at this; omega
  have HTL := Lib.hid htl
  clear htl
  go_enter Tryd.func46, Tryd.ntmps46
  go_wp2_with fail
  refine (tag_walk s _ hs).mono ?_
  rintro e w1 ⟨rfl, hb⟩
  have HB := Lib.hid hb
  clear hb
  go_wp2_with fail
  refine (crc_any _ _ (Tags.tag s.data.toList) _ HTL.out (bytes_bytesWorld w1 5 ⟨(Tags.tag s.data.toList).toArray⟩)).mono ?_
  rintro e w2 ⟨rfl, rfl⟩
  have hlt := Crc16.crc_lt (Tags.tag s.data.toList)
  have he : ((Crc16.crc (Tags.tag s.data.toList) : Int) % 16384) = ((slotOf s.data.toList : Nat) : Int) := by unfold slotOf; omega
  have HE := Lib.hid he
  clear he hconv
  go_wp2
  go_ret
  exact ⟨by rw [HE.out]; rfl, HB.out.trans ((below_bytesWorld _ _ _).mono HB.out.size)⟩

end Go.Proofs.YtahmddopbmjepaaDoor
