/- The contract of the laws' Make: arrays, and all. -/
import Derived.Test.YtcjbfgkmpoebgaaDoorRpMake
namespace Go.Proofs.YtcjbfgkmpoebgaaDoor
open Go.RowKit Go.Shelf
attribute [local go_sem] Oper.semAt_some
set_option linter.unusedVariables false
set_option linter.unusedSimpArgs false

/-- the array that is being filled: q replies are in it. -/
def MInv (Pb : Nat) (w2 : World) (l : List Rp.R) (q : Nat) (wr : World) : Prop :=
  ∃ a c xs, xs.length = q ∧ xs.map EV.r = l.take q ∧ wr.heap[Pb]? = some (.cells #[.int .i64 6, .string ⟨#[]⟩, .int .i64 0, .slice a q c] 24 (0, 0)) ∧ wr.ownsRow w2.heap.size 24 4 (.slice a q c) q (flat4 xs) ∧
    (∀ x ∈ xs, Rep (fun k => w2.heap.size ≤ k ∧ some k ≠ (Value.slice a q c).ownBlock) wr x.r (.agg (agg4 x).toArray)) ∧ Keeps (fun j => j ≠ Pb) w2 wr

theorem mk_kept {wr w1 w3 : World} {o2 : Obj} {v : Value} (hb1 : Below wr.drew.heap.size wr.drew w1) (hg : (w1.alloc o2).grownBy w3 v.ownBlock) : Keeps (fun j => some j ≠ v.ownBlock) wr w3 :=
  ((Keeps.refl _ wr).drew.trans (Keeps.of_below hb1 fun _ h _ => h)).trans (((Keeps.refl _ w1).alloc o2).trans (Keeps.of_grown hg fun r h1 h2 => h2 h1.symm))

theorem MInv.step {Pb : Nat} {w2 wr w1 w3 : World} {l : List Rp.R} {q : Nat} {a : Option Addr} {c : Nat} {xs : List EV} {x : EV} {g cap : Nat} (hPb : Pb < w2.heap.size) (h1 : xs.length = q) (h2 : xs.map EV.r = l.take q) (hq : q < l.length) (hlx : l[q] = x.r)
    (h3 : wr.heap[Pb]? = some (.cells #[.int .i64 6, .string ⟨#[]⟩, .int .i64 0, .slice a q c] 24 (0, 0))) (h4 : wr.ownsRow w2.heap.size 24 4 (.slice a q c) q (flat4 xs))
    (h5 : ∀ x ∈ xs, Rep (fun k => w2.heap.size ≤ k ∧ some k ≠ (Value.slice a q c).ownBlock) wr x.r (.agg (agg4 x).toArray)) (h6 : Keeps (fun j => j ≠ Pb) w2 wr)
    (hb1 : Below wr.drew.heap.size wr.drew w1) (hrep : Rep (fun k => wr.drew.heap.size ≤ k) w1 x.r (.agg (agg4 x).toArray)) (hown : w3.ownsRow w2.heap.size 24 4 (.slice (some ⟨g, 0, none⟩) (q + 1) cap) (q + 1) (flat4 xs ++ agg4 x))
    (hg : (w1.alloc (.cells (agg4 x).toArray 24)).grownBy w3 (Value.slice a q c).ownBlock) (hwh : (Value.slice a q c).ownBlock = some g ∨ g = (w1.alloc (.cells (agg4 x).toArray 24)).heap.size) :
    MInv Pb w2 l (q + 1) (w3.setCell ⟨Pb, 3, none⟩ (.slice (some ⟨g, 0, none⟩) (q + 1) cap)) := by
  have hlt : ∀ k, (Value.slice a q c).ownBlock = some k → w2.heap.size ≤ k ∧ k < wr.heap.size := fun k e => h4.lt k e
  have hsz : wr.heap.size ≤ w1.heap.size := hb1.size
  have hdz : wr.drew.heap.size = wr.heap.size := rfl
  have hza : (w1.alloc (.cells (agg4 x).toArray 24)).heap.size = w1.heap.size + 1 := by simp
  have hw2 : w2.heap.size ≤ wr.heap.size := h6.size
  have hk := mk_kept hb1 hg
  have hge : ∀ k, k < w1.heap.size → (some k ≠ (Value.slice a q c).ownBlock ∨ wr.heap.size ≤ k) → k ≠ g := by
    intro k hk1 hk2 e
    subst e
    rcases hwh with h | h
    · rcases hk2 with hk2 | hk2
      · exact hk2 h.symm
      · have := (hlt _ h).2; omega
    · omega
  have hk1 : Keeps (fun k => wr.drew.heap.size ≤ k) w1 w3 := ((Keeps.refl _ w1).alloc _).trans (Keeps.of_grown hg fun r e h => by have := (hlt r e).2; rw [hdz] at h; omega)
  have hself : (Value.slice (some (⟨g, 0, none⟩ : Addr)) (q + 1) cap).ownBlock = some g := rfl
  refine ⟨some ⟨g, 0, none⟩, cap, xs ++ [x], by simp [h1], ?_, ?_, ?_, ?_, ?_⟩
  · rw [List.map_append, h2, List.take_succ_eq_append_getElem hq, hlx]
    rfl
  · have hp : w3.heap[Pb]? = some (.cells #[.int .i64 6, .string ⟨#[]⟩, .int .i64 0, .slice a q c] 24 (0, 0)) := hk.heap h3 (fun e => by have := (hlt _ e.symm).1; omega)
    simp [World.setCell, Array.getElem?_modify, hp]
  · rw [flat4_snoc]
    refine owns_kept (S := fun j => j ≠ Pb) hown ((Keeps.refl _ w3).setCell (.inr fun h => h rfl) _) fun k e => ?_
    have := (hown.lt k e).1
    omega
  · intro y hy
    have hset : Keeps (fun k => w2.heap.size ≤ k ∧ some k ≠ some g) w3 (w3.setCell ⟨Pb, 3, none⟩ (.slice (some ⟨g, 0, none⟩) (q + 1) cap)) := (Keeps.refl _ w3).setCell (.inr fun h => by have h := h.1; simp at h; omega) _
    rw [hself]
    refine Rep.keeps hset (fun k h _ => h) _ _ ?_
    rcases List.mem_append.1 hy with hy | hy
    · have hyr := h5 y hy
      refine Rep.keeps (S := fun k => w2.heap.size ≤ k ∧ some k ≠ (Value.slice a q c).ownBlock) (hk.mono fun _ _ h => h.2) (fun k h hlt' => ⟨h.1, fun e => ?_⟩) _ _ hyr
      injection e with e
      exact hge k (by omega) (.inl h.2) e
    · simp at hy
      subst hy
      refine Rep.keeps hk1 (fun k h hlt' => ⟨by rw [hdz] at h; omega, fun e => ?_⟩) _ _ hrep
      injection e with e
      exact hge k hlt' (.inr (by rw [hdz] at h; omega)) e
  · exact (h6.trans_lt hk fun i hi _ e => by have := (hlt i e.symm).1; omega).setCell (p := ⟨Pb, 3, none⟩) (.inr fun h => h rfl) _

theorem four_news (w : World) (x y z u : Value) : ∀ (j : Nat) (v : Value), [x, y, z, u][j]? = some v → (w.alloc (.cells #[x, y, z, u] 24)).cell? ((⟨w.heap.size, 0, none⟩ : Addr).add j) = some v :=
  fun j v h => World.news_of_block (World.alloc_heap_new w (.cells #[x, y, z, u] 24)) j v h

theorem sub_len {b : UInt8} {t : List UInt8} {N q K h : Nat} (hN : (b :: t).length = N) (hq : q + 1 < N) (hh : h = min N (q + 1 + K)) : ((t.drop q).take K).length = h - (q + 1) := by
  simp at hN
  simp
  omega

theorem sub_bt {w : World} {bb off cap : Nat} {b : UInt8} {t : List UInt8} (hb : Bt (fun _ => True) w (some ⟨bb, off, none⟩) cap (b :: t)) {q K : Nat} (hq : q + 1 < (b :: t).length) : Bt (fun _ => True) w (some ⟨bb, off + (q + 1), none⟩) (cap - (q + 1)) ((t.drop q).take K) := by
  have h := (hb.from (n := q + 1) (by omega)).to K
  have := hb.1
  rw [if_neg (by omega)] at h
  simpa [Addr.add] using h

set_option maxRecDepth 100000 in
set_option maxHeartbeats 8000000 in
theorem make_arr (f : Nat) (b : UInt8) (t : List UInt8) (a : Option Addr) (cap : Nat) (s : List UInt8) (w : World) (hl : (b :: t).length ≤ 1000) (hs : s.length ≤ 1000) (hb : Bt (fun _ => True) w a cap (b :: t)) (hn : b.toNat % 6 = 4)
    (ih : ∀ (ns : List UInt8) (a : Option Addr) (cap : Nat) (W : World), ns.length ≤ t.length → Bt (fun _ => True) W a cap ns → Calls Tryd.prog 20 #[.slice a ns.length cap, .string ⟨s.toArray⟩] W (MkOut W (Rp.mkF f ns s))) :
    Calls Tryd.prog 20 #[.slice a (b :: t).length cap, .string ⟨s.toArray⟩] w (MkOut w (Rp.mkF (f + 1) (b :: t) s)) := by
  have hb' := hb
  obtain ⟨hc1, hc2, hc3⟩ := hb
  obtain ⟨bb, off, rfl, -, hlt, hc⟩ := hc3.resolve_left (by simp)
  have c0 := hc 0 (by simp)
  simp only [List.getD_cons_zero, Nat.add_zero] at c0
  clear hc hc3
  have HBT := Lib.hid hb'
  have HIH := Lib.hid ih
  clear hb' ih
  have hx255 : (b.toNat : Int) ≤ 255 := by have := b.toNat_lt; omega
  have hx0 : (0 : Int) ≤ (b.toNat : Int) := by omega
  have hsI : (s.length : Int) ≤ 1000 := by omega
  obtain ⟨N, hN⟩ : ∃ N, (b :: t).length = N := ⟨_, rfl⟩
  have htl : t.length + 1 = N := by simpa using hN
  rw [hN] at hl hc1 ⊢
  have HN := Lib.hid hN
  have hNI : (0 : Int) < (N : Int) := by omega
  have hN0 : ¬ (N : Int) = 0 := by omega
  obtain ⟨w1, hw1⟩ : ∃ w1, w.alloc (.cells #[.int .i64 0, .string ⟨#[]⟩, .int .i64 0, .slice none 0 0] 24) = w1 := ⟨_, rfl⟩
  obtain ⟨w2, hw2⟩ : ∃ w2, w1.alloc (.cells #[.int .i64 6, .string ⟨#[]⟩, .int .i64 0, .slice none 0 0] 24) = w2 := ⟨_, rfl⟩
  have hs1 : w1.heap.size = w.heap.size + 1 := by rw [← hw1]; simp
  have hs2 : w2.heap.size = w.heap.size + 2 := by rw [← hw2, World.size_alloc, hs1]
  have hx1 := World.alloc_heap_new w (.cells #[.int .i64 0, .string ⟨#[]⟩, .int .i64 0, .slice none 0 0] 24)
  have hb1 := (Below.refl w.heap.size w).alloc (Nat.le_refl _) (.cells #[.int .i64 0, .string ⟨#[]⟩, .int .i64 0, .slice none 0 0] 24)
  rw [hw1] at hx1 hb1
  have hb2 : Below w1.heap.size w1 w2 := by rw [← hw2]; exact (Below.refl _ w1).alloc (Nat.le_refl _) _
  have hx12 := (hb2.block w.heap.size (by omega)).trans hx1
  have hp2 := World.alloc_heap_new w1 (.cells #[.int .i64 6, .string ⟨#[]⟩, .int .i64 0, .slice none 0 0] 24)
  rw [hw2] at hp2
  have c1 := (hb1.cell (p := ⟨bb, off, none⟩) hlt).trans c0
  have HW1 := Lib.hid hw1
  have HW2 := Lib.hid hw2
  have HS1 := Lib.hid hs1
  have HS2 := Lib.hid hs2
  have HX := Lib.hid hx12
  have HP := Lib.hid hp2
  have HB := Lib.hid (hb1.trans (hb2.mono (by omega)))
  clear hw1 hw2 hb1 hb2 hx1 hx12 hp2 c0 hN hs2
  have hR := (mkF_at (f := f) (b := b) (t := t) (s := s) rfl).2.2.2.2.2 (by omega)
  obtain ⟨X, hX⟩ : ∃ X : Int, (b.toNat : Int) = X := ⟨_, rfl⟩
  rw [hX] at hx255 hx0 c1
  obtain ⟨L, hL⟩ : ∃ L, (List.range (min (b.toNat / 6 % 5) t.length)).map (fun i => Rp.mkF f ((t.drop i).take (b.toNat / 30 % 4 + 1)) s) = L := ⟨_, rfl⟩
  have hLl : L.length = min (b.toNat / 6 % 5) t.length := by rw [← hL]; simp
  have hLg : ∀ q (h : q < L.length), L[q] = Rp.mkF f ((t.drop q).take (b.toNat / 30 % 4 + 1)) s := by subst hL; intro q h; simp
  rw [hL] at hR
  have HR := Lib.hid hR
  have HLL := Lib.hid hLl
  have HLG := Lib.hid hLg
  have HXX := Lib.hid hX
  have hX4 : X % 6 = 4 := by omega
  clear hR hL hLl hLg hX
  go_enter Tryd.func20, Tryd.ntmps20
  go_upto_region 1 with (fail)
  rw [show w.alloc (.cells #[.int .i64 0, .string ⟨#[]⟩, .int .i64 0, .slice none 0 0] 24) = w1 from HW1.out]
  clear HW1
  go_upto_region 15 with (fail)
  rw [show w1.alloc (.cells #[.int .i64 6, .string ⟨#[]⟩, .int .i64 0, .slice none 0 0] 24) = w2 from HW2.out]
  clear HW2
  rw [show ((N : Int) == 0) = false from beq_eq_false_iff_ne.2 hN0, hX4]
  go_loopw [7] (fun i wr => ∃ q : Nat, q ≤ L.length ∧ i = .int .i64 ((q : Int) + 1) ∧ Hid (MInv (w.heap.size + 1) w2 L q wr)) (fun i _ => L.length + 1 - (intOf i).toNat)
  case atStart => exact ⟨0, Nat.zero_le _, rfl, Lib.hid ⟨none, 0, [], rfl, rfl, by have := HP.out; rwa [hs1] at this, World.ownsRow_nil _ _ _ _, fun x h => by simp at h, Keeps.refl _ _⟩⟩
  case round =>
    obtain ⟨q, hq, rfl, HM⟩ := hrel
    obtain ⟨a, c, xs, h1, h2, h3, h4, h5, h6⟩ := HM.out
    have hz1 : w2.heap.size = w.heap.size + 2 := HS2.out
    have hzr : w2.heap.size ≤ wr.heap.size := h6.size
    obtain ⟨p0, p1, p2, p3, g0, g1, g2, g3⟩ := cells_four' h3
    have hbr : Below w.heap.size w wr := HB.out.trans (h6.below (by omega) fun j hj => by omega)
    have k0 : (0 : Int) ≤ (q : Int) + 1 := by omega
    have hq1000 : (q : Int) ≤ 1000 := by have := HLL.out; omega
    have hXd : X / 6 % 5 = ((b.toNat / 6 % 5 : Nat) : Int) := by have := HXX.out; omega
    have d6a : 0 ≤ X / 6 := by omega
    have d6b : 0 ≤ X / 6 % 5 := by omega
    by_cases hgo : q < L.length
    · have hgo' : q < min (b.toNat / 6 % 5) t.length := by rw [← HLL.out]; exact hgo
      have k1 : (q : Int) + 1 < (N : Int) := by omega
      have k2 : (q : Int) + 1 ≤ X / 6 % 5 := by omega
      have kT : ((q : Int) + 1).toNat = q + 1 := by omega
      have hqN : q + 1 < N := by omega
      obtain ⟨h, hh⟩ : ∃ h, min N (q + 1 + (b.toNat / 30 % 4 + 1)) = h := ⟨_, rfl⟩
      obtain ⟨Y, hY⟩ : ∃ Y : Int, X / 30 = Y := ⟨_, rfl⟩
      obtain ⟨Z, hZ⟩ : ∃ Z : Int, Y % 4 = Z := ⟨_, rfl⟩
      have hZn : Z = ((b.toNat / 30 % 4 : Nat) : Int) := by have := HXX.out; omega
      have hhI : min (N : Int) ((q : Int) + 1 + Z + 1) = (h : Int) := by omega
      have y0 : 0 ≤ Y := by omega
      have y1 : Y ≤ 8 := by omega
      have z0 : 0 ≤ Z := by omega
      have z1 : Z ≤ 3 := by omega
      have t1 : X.tdiv 30 = Y := by rw [Int.tdiv_eq_ediv_of_nonneg (by omega)]; exact hY
      have t2 : Y.tmod 4 = Z := by rw [Int.tmod_eq_emod_of_nonneg y0]; exact hZ
      have t3 : IntKind.i64.wrap Y = Y := IntWalk.i64_in _ (by omega)
      have t4 : IntKind.i64.wrap Z = Z := IntWalk.i64_in _ (by omega)
      have e1 : IntKind.i64.wrap ((q : Int) + 1 + Z) = (q : Int) + 1 + Z := IntWalk.i64_in _ (by omega)
      have e2 : IntKind.i64.wrap ((q : Int) + 1 + Z + 1) = (q : Int) + 1 + Z + 1 := IntWalk.i64_in _ (by omega)
      have e3 : IntKind.i64.wrap ((q : Int) + 1 + 1) = (q : Int) + 1 + 1 := IntWalk.i64_in _ (by omega)
      have hlh : q + 1 < h := by omega
      have hlhI : (q : Int) + 1 < (h : Int) := by omega
      have hhc : h ≤ cap := by omega
      have hz8 : ∀ w, (Go.sizeOf 5).run Tryd.prog w = .ok 1 w := fun w => by
        obtain ⟨i8, hi8, hi8z, hi8s, hi8b⟩ := info_parts info5
        simp [Go.sizeOf, typeInfo, hi8, hi8s]
      have hsl : ∀ W : World, (Instr.slice 28 (.slice (some ⟨bb, off, none⟩) N cap) (some (.int .i64 ((q : Int) + 1))) (some (.int .i64 (h : Int))) none).run Tryd.prog W = .ok (.slice (some ⟨bb, off + (q + 1), none⟩) (h - (q + 1)) (cap - (q + 1))) W := fun W => by
        have := Lib.run_slice_window (P := Tryd.prog) W 28 5 Tryd.underlying28 hz8 bb off N cap (q + 1) h hlh hhc
        rwa [show ((q + 1 : Nat) : Int) = (q : Int) + 1 by omega] at this
      have hsub := sub_bt (K := b.toNat / 30 % 4 + 1) HBT.out (q := q) (by have := HN.out; omega)
      have hsubl := sub_len (K := b.toNat / 30 % 4 + 1) HN.out hqN hh.symm
      have hcall : ∀ W, Below w.heap.size w W → Calls Tryd.prog 20 #[.slice (some ⟨bb, off + (q + 1), none⟩) (h - (q + 1)) (cap - (q + 1)), .string ⟨s.toArray⟩] W (MkOut W L[q]) := fun W hW => by
        have := HIH.out ((t.drop q).take (b.toNat / 30 % 4 + 1)) (some ⟨bb, off + (q + 1), none⟩) (cap - (q + 1)) W (by simp; omega) (hsub.later hW)
        rw [hsubl] at this
        rwa [HLG.out q hgo]
      obtain ⟨R1, hR1⟩ : ∃ R1, L[q] = R1 := ⟨_, rfl⟩
      rw [hR1] at hcall
      unfold MkOut rv at hcall
      have HC := Lib.hid hcall
      have HR1 := Lib.hid hR1
      have H1 := Lib.hid h1
      have H2 := Lib.hid h2
      have H3 := Lib.hid h3
      have H4 := Lib.hid h4
      have H5 := Lib.hid h5
      have H6 := Lib.hid h6
      have HGO := Lib.hid hgo
      have HBR := Lib.hid hbr
      obtain ⟨i24, hi24, hi24z, hi24s, hi24b⟩ := info_parts info24
      have HS0 : wr.drew.cell? ⟨w.heap.size + 1, 3, none⟩ = some (.slice a q c) := (World.cell?_drew _ _).trans p3
      clear h1 h2 h3 h4 h5 h6 hcall hR1 hsub hsubl hh HM hbr hZn hY hZ hXd
      go_upto_region 17 with (fail)
      refine wp_region_L (S := (fun W => W.cell? ⟨w.heap.size + 1, 3, none⟩ = some (.slice a q c))) (f := 19) (by kernel_rfl) ?_
      refine wpAnyL_take (i := 0) (some 65) (v := .pointer (some ⟨w.heap.size + 1, 3, none⟩)) rfl rfl (by kernel_rfl) (by kernel_rfl) (by kernel_rfl) (by kernel_rfl) (fun _ _ _ h => h) (by rfl) (fun W hS => ?_) HS0 ?_
      · rcases hS with m0
        go_simp
      try simp only [Act.put, List.setIfInBounds_toArray, List.set_cons_zero, List.set_cons_succ]
      refine wpAnyL_take (i := 1) (some 66) (v := .slice a q c) rfl rfl (by kernel_rfl) (by kernel_rfl) (by kernel_rfl) (by kernel_rfl) (fun _ _ _ h => h) (by rfl) (fun W hS => ?_) HS0 ?_
      · rcases hS with m0
        go_simp
      try simp only [Act.put, List.setIfInBounds_toArray, List.set_cons_zero, List.set_cons_succ]
      refine wpAnyL_take (i := 2) (some 67) (v := .slice (some ⟨bb, off, none⟩) N cap) rfl rfl (by kernel_rfl) (by kernel_rfl) (by kernel_rfl) (by kernel_rfl) (fun _ _ _ h => h) (by rfl) (fun W hS => ?_) HS0 ?_
      · rcases hS with m0
        go_simp
      try simp only [Act.put, List.setIfInBounds_toArray, List.set_cons_zero, List.set_cons_succ]
      refine wpAnyL_take (i := 3) (some 68) (v := .int .i64 ((q : Int) + 1)) rfl rfl (by kernel_rfl) (by kernel_rfl) (by kernel_rfl) (by kernel_rfl) (fun _ _ _ h => h) (by rfl) (fun W hS => ?_) HS0 ?_
      · rcases hS with m0
        go_simp
      try simp only [Act.put, List.setIfInBounds_toArray, List.set_cons_zero, List.set_cons_succ]
      refine wpAnyL_take (i := 4) (some 69) (v := .slice (some ⟨bb, off, none⟩) N cap) rfl rfl (by kernel_rfl) (by kernel_rfl) (by kernel_rfl) (by kernel_rfl) (fun _ _ _ h => h) (by rfl) (fun W hS => ?_) HS0 ?_
      · rcases hS with m0
        go_simp
      try simp only [Act.put, List.setIfInBounds_toArray, List.set_cons_zero, List.set_cons_succ]
      refine wpAnyL_take (i := 5) (some 70) (v := .int .i64 (N : Int)) rfl rfl (by kernel_rfl) (by kernel_rfl) (by kernel_rfl) (by kernel_rfl) (fun _ _ _ h => h) (by rfl) (fun W hS => ?_) HS0 ?_
      · rcases hS with m0
        go_simp
      try simp only [Act.put, List.setIfInBounds_toArray, List.set_cons_zero, List.set_cons_succ]
      refine wpAnyL_take (i := 6) (some 71) (v := .int .i64 ((q : Int) + 1)) rfl rfl (by kernel_rfl) (by kernel_rfl) (by kernel_rfl) (by kernel_rfl) (fun _ _ _ h => h) (by rfl) (fun W hS => ?_) HS0 ?_
      · rcases hS with m0
        go_simp
      try simp only [Act.put, List.setIfInBounds_toArray, List.set_cons_zero, List.set_cons_succ]
      refine wpAnyL_take (i := 7) (some 72) (v := .int .i64 X) rfl rfl (by kernel_rfl) (by kernel_rfl) (by kernel_rfl) (by kernel_rfl) (fun _ _ _ h => h) (by rfl) (fun W hS => ?_) HS0 ?_
      · rcases hS with m0
        go_simp
      try simp only [Act.put, List.setIfInBounds_toArray, List.set_cons_zero, List.set_cons_succ]
      refine wpAnyL_take (i := 8) (some 73) (v := .int .i64 Y) rfl rfl (by kernel_rfl) (by kernel_rfl) (by kernel_rfl) (by kernel_rfl) (fun _ _ _ h => h) (by rfl) (fun W hS => ?_) HS0 ?_
      · rcases hS with m0
        go_simp
      try simp only [Act.put, List.setIfInBounds_toArray, List.set_cons_zero, List.set_cons_succ]
      refine wpAnyL_take (i := 9) (some 74) (v := .int .i64 Z) rfl rfl (by kernel_rfl) (by kernel_rfl) (by kernel_rfl) (by kernel_rfl) (fun _ _ _ h => h) (by rfl) (fun W hS => ?_) HS0 ?_
      · rcases hS with m0
        go_simp
      try simp only [Act.put, List.setIfInBounds_toArray, List.set_cons_zero, List.set_cons_succ]
      refine wpAnyL_take (i := 10) (some 75) (v := .int .i64 ((q : Int) + 1 + Z)) rfl rfl (by kernel_rfl) (by kernel_rfl) (by kernel_rfl) (by kernel_rfl) (fun _ _ _ h => h) (by rfl) (fun W hS => ?_) HS0 ?_
      · rcases hS with m0
        go_simp
      try simp only [Act.put, List.setIfInBounds_toArray, List.set_cons_zero, List.set_cons_succ]
      refine wpAnyL_take (i := 11) (some 76) (v := .int .i64 ((q : Int) + 1 + Z + 1)) rfl rfl (by kernel_rfl) (by kernel_rfl) (by kernel_rfl) (by kernel_rfl) (fun _ _ _ h => h) (by rfl) (fun W hS => ?_) HS0 ?_
      · rcases hS with m0
        go_simp
      try simp only [Act.put, List.setIfInBounds_toArray, List.set_cons_zero, List.set_cons_succ]
      refine wpAnyL_take (i := 12) (some 77) (v := .int .i64 (h : Int)) rfl rfl (by kernel_rfl) (by kernel_rfl) (by kernel_rfl) (by kernel_rfl) (fun _ _ _ h => h) (by rfl) (fun W hS => ?_) HS0 ?_
      · rcases hS with m0
        go_simp
      try simp only [Act.put, List.setIfInBounds_toArray, List.set_cons_zero, List.set_cons_succ]
      refine wpAnyL_take (i := 13) (some 78) (v := .slice (some ⟨bb, off + (q + 1), none⟩) (h - (q + 1)) (cap - (q + 1))) rfl rfl (by kernel_rfl) (by kernel_rfl) (by kernel_rfl) (by kernel_rfl) (fun _ _ _ h => h) (by rfl) (fun W hS => ?_) HS0 ?_
      · rcases hS with m0
        go_simp
      try simp only [Act.put, List.setIfInBounds_toArray, List.set_cons_zero, List.set_cons_succ]
      refine wpAnyL_take (i := 14) (some 79) (v := .string ⟨s.toArray⟩) rfl rfl (by kernel_rfl) (by kernel_rfl) (by kernel_rfl) (by kernel_rfl) (fun _ _ _ h => h) (by rfl) (fun W hS => ?_) HS0 ?_
      · rcases hS with m0
        go_simp
      try simp only [Act.put, List.setIfInBounds_toArray, List.set_cons_zero, List.set_cons_succ]
      refine wpAnyL_one (j := 15) (by kernel_rfl) rfl (by rfl) (fun K hK => ?_)
      go_simp
      with_reducible refine (HC.out _ HBR.out.drew).mono ?_
      rintro e w3 ⟨a1, c1', rfl, hrep, hb⟩
      have HS1 := (hb.cell (p := ⟨w.heap.size + 1, 3, none⟩) (World.block_lt_of_cell? _ _ HS0)).trans HS0
      have HB1 := Lib.hid hb
      have HREP := Lib.hid hrep
      have hz3 : wr.heap.size ≤ w3.heap.size := hb.size
      clear hb hrep
      refine hK _ _ (fun _ => HS1) ?_
      clear hK K
      try simp only [Act.put, List.setIfInBounds_toArray, List.set_cons_zero, List.set_cons_succ]
      refine wpAnyL_one (j := 16) (by kernel_rfl) rfl (by rfl) (fun K hK => ?_)
      refine oper_wp_val (v := .slice (some ⟨w3.heap.size, 0, none⟩) 1 1) (w' := w3.alloc (.cells #[.int .i64 R1.k, .string ⟨R1.s.toArray⟩, .int .i64 R1.n, .slice a1 R1.l.length c1'] 24)) (by go_simp) ?_
      have HO2 := Lib.hid (owns_kept (S := fun _ => True) H4.out ((Keeps.refl (fun _ => True) wr).drew.trans (Keeps.of_below HB1.out fun _ h _ => h)) fun _ _ => trivial)
      have HS3 := (World.cell?_alloc_lt w3 (.cells #[.int .i64 R1.k, .string ⟨R1.s.toArray⟩, .int .i64 R1.n, .slice a1 R1.l.length c1'] 24) ⟨w.heap.size + 1, 3, none⟩ (World.block_lt_of_cell? _ _ HS1)).trans HS1
      refine hK _ _ (fun _ => HS3) ?_
      clear hK K
      try simp only [Act.put, List.setIfInBounds_toArray, List.set_cons_zero, List.set_cons_succ]
      refine wpAnyL_one (j := 17) (by kernel_rfl) rfl (by rfl) (fun K hK => ?_)
      refine wp_append_lies _ (.tmp 66) (.tmp 81) 22 rfl w2.heap.size 24 i24 _ 4 56 Tryd.underlying22 hi24 hi24z hi24s hi24b rfl (by decide) (.slice a q c) q (flat4 xs) rfl (HO2.out.alloc _) ⟨w3.heap.size, 0, none⟩ 1 1 [.int .i64 R1.k, .string ⟨R1.s.toArray⟩, .int .i64 R1.n, .slice a1 R1.l.length c1'] rfl rfl (four_news w3 _ _ _ _) (by simp [Value.oneCell']) (by decide) (by unfold maxLen; omega) (by omega) (by simp; omega) _ rfl ?_
      intro g cap' w4 hown hgrow hat hlt3
      have hfar : ∀ k, k < w2.heap.size → some k ≠ (Value.slice a q c).ownBlock := fun k hk e => by have := (H4.out.lt _ e.symm).1; omega
      have HS4 := (hgrow.cell_far ⟨w.heap.size + 1, 3, none⟩ (World.block_lt_of_cell? _ _ HS3) (hfar (w.heap.size + 1) (by omega))).trans HS3
      have hp4 := (mk_kept HB1.out hgrow).heap H3.out (hfar (w.heap.size + 1) (by omega))
      obtain ⟨-, -, -, -, -, -, -, g3'⟩ := cells_four' hp4
      have HO3 := Lib.hid hown
      have HG3 := Lib.hid hgrow
      have HA3 := Lib.hid hat
      clear hown hgrow hat hp4 hfar g3 g0 g1 g2
      refine hK _ _ (fun _ => HS4) ?_
      clear hK K
      try simp only [Act.put, List.setIfInBounds_toArray, List.set_cons_zero, List.set_cons_succ]
      refine wpAnyL_take (i := 18) (some 83) (v := .pointer (some ⟨w.heap.size + 1, 3, none⟩)) rfl rfl (by kernel_rfl) (by kernel_rfl) (by kernel_rfl) (by kernel_rfl) (fun _ _ _ h => h) (by rfl) (fun W hS => ?_) HS4 ?_
      · rcases hS with m0
        go_simp
      try simp only [Act.put, List.setIfInBounds_toArray, List.set_cons_zero, List.set_cons_succ]
      have g00 := HS4
      refine wpAnyL_one (j := 19) (by kernel_rfl) rfl (by rfl) (fun K hK => ?_)
      go_simp
      refine hK _ _ (fun h => (h rfl).elim) ?_
      clear hK K
      try simp only [Act.put, List.setIfInBounds_toArray, List.set_cons_zero, List.set_cons_succ]
      refine wpAnyL_done (by kernel_rfl) ?_ _
      go_wp2_with fail
      go_roundw
      case rel =>
        have hstep := MInv.step (x := ⟨R1.k, ⟨R1.s.toArray⟩, R1.n, a1, R1.l.length, c1', 0, R1⟩) (by omega) H1.out H2.out HGO.out HR1.out H3.out H4.out H5.out H6.out HB1.out HREP.out HO3.out HG3.out HA3.out
        exact ⟨q + 1, HGO.out, by go_num, Lib.hid hstep⟩
      case measure => simp [intOf]; omega
    · obtain rfl : q = L.length := by omega
      rw [List.take_length] at h2
      have hlen5 : L.length ≤ 4 := by have := HLL.out; omega
      obtain ⟨a', c', hv, hrep⟩ := row_rep (xs := xs) (by rw [h1]; exact h4) (by omega) (fun x hx => (h5 x hx).mono fun k h _ => h.1)
      rw [h1, h2] at hrep
      rw [h1] at hv
      simp only [Value.slice.injEq, true_and] at hv
      obtain ⟨rfl, rfl⟩ := hv
      have hx2 := (h6.heap HX.out (by omega) : wr.heap[w.heap.size]? = _)
      obtain ⟨b0, b1, b2, b3, f0, f1, f2, f3⟩ := cells_four' hx2
      have HX2 := Lib.hid hx2
      have HREP := Lib.hid hrep
      have HBR := Lib.hid hbr
      have hor : ¬ (L.length : Int) + 1 < (N : Int) ∨ ((L.length : Int) + 1 < (N : Int) ∧ ¬ (L.length : Int) + 1 ≤ X / 6 % 5) := by have := HLL.out; omega
      clear h1 h2 h3 h4 h5 h6 HM hrep hx2 hbr hXd
      rcases hor with hor | ⟨hor, hor2⟩
      all_goals
        go_wp2
        refine bodyPost_ret (results_cell (T := 24) (p := ⟨w.heap.size, 0, none⟩) rfl rfl (loadVar24' _ _ (heap_four HX2.out (.int .i64 6) (.string ⟨#[]⟩) (.int .i64 0) (.slice a L.length c)))) rfl ?_
        rw [HR.out]
        refine ⟨a, c, rfl, ?_, mk_store HBR.out _ _ _ _⟩
        have hset : Keeps (fun k => w2.heap.size ≤ k) wr (set4 wr w.heap.size (.int .i64 6) (.string ⟨#[]⟩) (.int .i64 0) (.slice a L.length c)) := keeps_set4 (Keeps.refl _ wr) (.inr (by omega)) _ _ _ _
        exact Rep.keeps hset (fun k h _ => by omega) _ _ HREP.out
end Go.Proofs.YtcjbfgkmpoebgaaDoor
