/- The contract of resp.May. -/
import Derived.Test.YtcplfengdenllaaDoorRpVisit
import Derived.Test.YtcplfengdenllaaDoorRpFits
namespace Go.Proofs.YtcplfengdenllaaDoor
open Go.RowKit Go.Shelf
attribute [local go_sem] Oper.semAt_some
variable {Q : Rp.H → Prop}

/-- a loop's variable that is a part, boxed, in a block of its own. -/
def VVar (b : Nat) (mk : Nat → (PV Q) → Act) (O : Nat → Prop) (x : (PV Q)) (a' : Act) (A : World) : Prop :=
  ∃ Bx, b ≤ Bx ∧ ¬ O Bx ∧ A.heap[Bx]? = some (.cells #[.int .i64 x.h.k, .string ⟨x.h.s.toArray⟩, .int .i64 x.h.n, .slice x.a x.h.m x.cap] 24 (0, 0)) ∧ a' = mk Bx x

theorem VVar.later {b n : Nat} {mk : Nat → (PV Q) → Act} {O : Nat → Prop} {x : (PV Q)} {a' : Act} {A C : World} (h : VVar b mk O x a' A) (hn : n < b) (hk : Keeps (fun k => k ≠ n) A C) : VVar b mk O x a' C := by
  obtain ⟨Bx, h1, h2, h3, h4⟩ := h
  exact ⟨Bx, h1, h2, hk.heap h3 (by omega), h4⟩

theorem may_true {r : Rp.R} {xs : List (PV Q)} (h : xs.map PV.hl = Rp.heads 0 r) (ha : ∀ x ∈ xs, Rp.okB x.hl = true) : Rp.mayB r = true := by
  unfold Rp.mayB
  rw [← h, List.all_eq_true]
  intro p hp
  obtain ⟨x, hx, rfl⟩ := List.mem_map.1 hp
  exact ha x hx

theorem may_false {r : Rp.R} {xs : List (PV Q)} (h : xs.map PV.hl <+: Rp.heads 0 r) {x : (PV Q)} (hx : x ∈ xs) (ha : Rp.okB x.hl = false) : Rp.mayB r = false := by
  unfold Rp.mayB
  rw [List.all_eq_false]
  exact ⟨x.hl, h.subset (List.mem_map.2 ⟨x, hx, rfl⟩), by simp [ha]⟩

set_option maxRecDepth 100000 in
set_option maxHeartbeats 4000000 in
theorem may_any (r : Rp.R) (a : Option Addr) (cap : Nat) (w : World) (hsz : (Rp.heads 0 r).length ≤ 1000000) (hcas : AllQ CAQ (Rp.heads 0 r)) (hrep : Rep (fun k => k < w.heap.size) w r (rv r.k r.s r.n a r.l.length cap)) :
    CallsIn Fence.wide 0 Tryd.prog 12 #[rv r.k r.s r.n a r.l.length cap] w fun e W' => e = .returned (.bool (Rp.mayB r)) ∧ Below w.heap.size w W' := by
  obtain ⟨w1, hw1⟩ : ∃ w1, (w.alloc (.cells #[.int .i64 r.k, .string ⟨r.s.toArray⟩, .int .i64 r.n, .slice a r.l.length cap] 24)).alloc (.cells #[.bool false] 4) = w1 := ⟨_, rfl⟩
  have hp := parts_any r.k r.s r.n a r.l.length cap w1
  have hs1 : w1.heap.size = w.heap.size + 2 := by rw [← hw1]; simp
  have hB1 : Below w.heap.size w w1 := by rw [← hw1]; exact ((Below.refl _ w).alloc (Nat.le_refl _) _).alloc (by simp) _
  have hbr : Boxed w1 (w.heap.size + 1) 4 (.bool false) := by
    rw [← hw1]
    have := Boxed.new (w.alloc (.cells #[.int .i64 r.k, .string ⟨r.s.toArray⟩, .int .i64 r.n, .slice a r.l.length cap] 24)) 4 (.bool false)
    rwa [World.size_alloc] at this
  rw [hs1] at hp
  have HREP := Lib.hid hrep
  have HB1 := Lib.hid hB1
  have HS1 := Lib.hid hs1
  have HBR := Lib.hid hbr
  have HCAS := Lib.hid hcas
  clear hrep hB1 hs1 hbr hcas
  subst hw1
  unfold rv at hp ⊢
  refine callsIn_of_wp_marks Tryd.func12 rfl trivial ?_ rfl
  simp only [Tryd.ntmps12, List.size_toArray, List.length_cons, List.length_nil, Nat.reduceAdd, Nat.reduceSub, Array.replicate_succ, Array.replicate_zero, List.push_toArray, List.append_toArray, List.nil_append, List.cons_append]
  gi_wp2_with (refine ⟨trivial, rfl, ?_⟩; refine hp.mono ?_; rintro e w2 ⟨rfl, hw2⟩; have HW2 := Lib.hid hw2; clear hw2)
  have hw2 := HW2.out
  clear HW2
  have hs1 := HS1.out
  have hB2 : Below w.heap.size w w2 := by rw [hw2]; exact HB1.out.alloc (by omega) _
  have hbr : Boxed w2 (w.heap.size + 1) 4 (.bool false) := by rw [hw2]; exact HBR.out.alloc _
  have hbox : w2.heap[w.heap.size + 2]? = some (.cells #[.int .i64 r.k, .string ⟨r.s.toArray⟩, .int .i64 r.n, .slice a r.l.length cap] 24 (0, 0)) := by rw [hw2, ← hs1]; exact World.alloc_heap_new _ _
  have hs2 : w2.heap.size = w.heap.size + 3 := by rw [hw2, World.size_alloc, hs1]
  clear hw2 HB1 HS1 HBR hs1
  have hseq := parts_seq true (w.heap.size + 2) r a cap w2 HCAS.out hsz (by omega) hbox (fun k => k < w.heap.size) (Rep.keeps (Keeps.of_below hB2 fun _ h _ => h) (fun _ h _ => h) r _ HREP.out)
  clear hbox
  refine wpIn_rangeN (gf := 34) (lb := #[.pointer (some ⟨w.heap.size + 2, 0, none⟩)]) rfl (enters_of Tryd.func34 (by kernel_rfl) rfl)
    hseq (Below.refl _ _) (fun k h => by omega) (fun k h => h.elim) (fun _ => rfl)
    (fun _ pre W => Boxed W (w.heap.size + 1) 4 (.bool false) ∧ (∀ x ∈ pre, Rp.okB x.hl = true) ∧ Below w.heap.size w W)
    (fun c _ pre W => c = .ret ∧ Boxed W (w.heap.size + 1) 4 (.bool false) ∧ (∃ x ∈ pre, Rp.okB x.hl = false) ∧ Below w.heap.size w W)
    ?hI ?hIx (fun h => by cases h) ⟨hbr, fun x h => absurd h (by simp), hB2⟩
    (VVar (Q := CAQ) (w2.heap.size + 2) (fun Bx x => { tmps := #[.agg #[.int .i64 r.k, .string ⟨r.s.toArray⟩, .int .i64 r.n, .slice a r.l.length cap], .pointer (some ⟨w.heap.size, 0, none⟩), .pointer (some ⟨w.heap.size + 1, 0, none⟩), .pointer (some ⟨Bx, 0, none⟩), .int .i64 x.lev, .agg #[.int .i64 r.k, .string ⟨r.s.toArray⟩, .int .i64 r.n, .slice a r.l.length cap], .func (.func 34) #[] #[.pointer (some ⟨w.heap.size + 2, 0, none⟩)], rv x.h.k x.h.s x.h.n x.a x.h.m x.cap, .int .i64 x.lev, undef, undef, undef, undef, undef, undef, undef, undef, undef, undef, undef, undef], defers := [] }))
    (fun O x a' A C h hk => h.later (by omega) hk) ?assign ?body ?done ?stop
  case hI =>
    rintro O s A C ⟨h1, h2, h3⟩ hk
    have own : ∀ k, k < w2.heap.size → IterS (fun _ => False) w2.heap.size O k := fun k h => ⟨id, .inl h⟩
    exact ⟨hk.heap h1 (own _ (by omega)), h2, h3.trans (hk.below h3.size fun k hk' => own k (by omega))⟩
  case hIx =>
    rintro c O s A C ⟨h0, h1, h2, h3⟩ hk
    have own : ∀ k, k < w2.heap.size → IterS (fun _ => False) w2.heap.size O k := fun k h => ⟨id, .inl h⟩
    exact ⟨h0, hk.heap h1 (own _ (by omega)), h2, h3.trans (hk.below h3.size fun k hk' => own k (by omega))⟩
  case assign =>
    intro O pre x A K hO hA ⟨hb, hall, hB⟩ hK
    have HK := Lib.hid hK
    have HA := Lib.hid hall
    clear hK hall
    unfold encV rv
    gi_wp2
    exact HK.out _ _ (KeepsN.refl _ _ _ |>.alloc _) ⟨hb.alloc _, HA.out, hB.alloc hB.size _⟩ ⟨A.heap.size, by omega, fun h => by have := (hO _ h).2; omega, World.alloc_heap_new A _, rfl⟩
  case body =>
    rintro O pre x a' A hO hA ⟨r', hr⟩ ⟨hb, hall, hB⟩ ⟨Bx, hBx, hnO, hcx, rfl⟩ hlen
    have b1 := hb.cell
    have b2 := hb.frozen
    have HA := Lib.hid hall
    have HO := Lib.hid hO
    obtain ⟨x0, x1, x2, x3⟩ := cells_four hcx
    have hfc := in_round (l := w2.heap.size + 1) (fits_any x.h.k x.h.s x.h.n x.a x.h.m x.cap A x.fit x.q)
    unfold rv at hfc ⊢
    have HOK : Hid (Rp.okB x.hl = (Rp.fitsB ⟨x.h.k, x.h.s, x.h.n, x.h.m⟩ && !((x.h.k == 6) && decide ((8 : Int) ≤ (x.lev : Int))))) := Lib.hid (by
      have e8 : decide (8 ≤ x.lev) = decide ((8 : Int) ≤ (x.lev : Int)) := decide_eq_decide.2 (by omega)
      unfold Rp.okB PV.hl
      rw [e8]
      rfl)
    have HLow := Lib.hid x.low
    have hxl : (x.lev : Int) ≤ 1000000 := by have := x.low; omega
    have HN : ∀ W2, Below A.heap.size A W2 → Hid (W2.cell? ⟨Bx, 0, none⟩ = some (.int .i64 x.h.k) ∧ W2.cell? ⟨w.heap.size + 1, 0, none⟩ = some (.bool false) ∧ W2.frozen? ⟨w.heap.size + 1, 0, none⟩ = false ∧
        (KeepsN (fun k => k < w.heap.size) (OwnS (fun _ => False) w2.heap.size O) A W2 ∧ GrowsN (w2.heap.size + 2) O O A W2 ∧ Boxed W2 (w.heap.size + 1) 4 (.bool false) ∧ Below w.heap.size w W2) ∧
        (KeepsN (fun k => k < w.heap.size) (OwnS (fun _ => False) w2.heap.size O) A (W2.setCell ⟨w.heap.size + 1, 0, none⟩ (.bool false)) ∧ GrowsN (w2.heap.size + 2) O O A (W2.setCell ⟨w.heap.size + 1, 0, none⟩ (.bool false)) ∧ Boxed (W2.setCell ⟨w.heap.size + 1, 0, none⟩ (.bool false)) (w.heap.size + 1) 4 (.bool false) ∧ Below w.heap.size w (W2.setCell ⟨w.heap.size + 1, 0, none⟩ (.bool false)))) := fun W2 hb2 => by
      have hk2 : KeepsN (fun k => k < w.heap.size) (OwnS (fun _ => False) w2.heap.size O) A W2 := KeepsN.of_keeps (Keeps.of_below hb2 fun k h _ => h)
      have hbx2 : Boxed W2 (w.heap.size + 1) 4 (.bool false) := (hb2.block _ (by omega)).trans hb
      have hbw2 : Below w.heap.size w W2 := hB.trans (hb2.mono (by omega))
      have hsz2 := hb2.size
      have hbxl : Bx < A.heap.size := (Array.getElem?_eq_some_iff.1 hcx).1
      refine Lib.hid ⟨(hb2.cell (p := ⟨Bx, 0, none⟩) hbxl).trans x0, hbx2.cell, hbx2.frozen, ⟨hk2, GrowsN.same fun k hk => by have := (HO.out k hk).2; omega, hbx2, hbw2⟩, hk2.setCell (.inr ?_) _, GrowsN.same fun k hk => by have := (HO.out k hk).2; simp; omega, hbx2.set _, hbw2.setCell (p := ⟨w.heap.size + 1, 0, none⟩) (Nat.le_succ _) _⟩
      rintro (h | h | h)
      · have h : w.heap.size + 1 < w.heap.size := h
        omega
      · exact h
      · have := h.1
        simp at this
        omega
    have HNN := Lib.hid HN
    clear hall hr hcx HN hb hB hO
    generalize Rp.fitsB ⟨x.h.k, x.h.s, x.h.n, x.h.m⟩ = fb at hfc HOK
    obtain ⟨q6, hq6⟩ : ∃ q, (x.h.k == 6) = q := ⟨_, rfl⟩
    obtain ⟨q8, hq8⟩ : ∃ q, decide ((8 : Int) ≤ (x.lev : Int)) = q := ⟨_, rfl⟩
    have HO2 : Hid (Rp.okB x.hl = (fb && !(q6 && q8))) := Lib.hid (by rw [HOK.out, hq6, hq8])
    have HGO : Hid (Rp.okB x.hl = true → ∀ y ∈ pre ++ [x], Rp.okB y.hl = true) := Lib.hid fun h y hy => by
      rcases List.mem_append.1 hy with hy | hy
      · exact HA.out y hy
      · rw [List.mem_singleton.1 hy]; exact h
    have HNO : Hid (Rp.okB x.hl = false → ∃ y ∈ pre ++ [x], Rp.okB y.hl = false) := Lib.hid fun h => ⟨x, by simp, h⟩
    clear HOK HA
    cases fb <;> cases q6 <;> cases q8 <;>
      (gi_wp2_with (refine ⟨trivial, rfl, ?_⟩; refine hfc.mono ?_; rintro e W2 ⟨rfl, hb2⟩; have HW := HNN.out W2 hb2; obtain ⟨y0, y1, y2, -⟩ := HW.out; clear hb2 hfc HNN)
       first
       | exact ⟨HW.out.2.2.2.1.1, O, HW.out.2.2.2.1.2.1, HW.out.2.2.2.1.2.2.1, HGO.out HO2.out, HW.out.2.2.2.1.2.2.2⟩
       | exact ⟨HW.out.2.2.2.2.1, O, HW.out.2.2.2.2.2.1, rfl, HW.out.2.2.2.2.2.2.1, HNO.out HO2.out, HW.out.2.2.2.2.2.2.2⟩)
  case done =>
    rintro O D xs A hD hDs hO - hSx ⟨hb, hall, hB⟩ hDd
    have HS := Lib.hid (may_true hSx hall)
    have b1 := hb.cell
    have b2 := hb.frozen
    clear hSx hall
    gi_wp2
    have hk : Keeps (fun k => k ≠ D) (A.setCell ⟨w.heap.size + 1, 0, none⟩ (.bool true)) ((A.setCell ⟨w.heap.size + 1, 0, none⟩ (.bool true)).putObj D (.deferred none)) := (Keeps.refl _ _).putObj (fun h => h rfl) _
    have hbt := hk.heap (hb.set (.bool true)) (by omega)
    have hDd' : (A.setCell ⟨w.heap.size + 1, 0, none⟩ (.bool true)).heap[D]? = some (.deferred (some [])) := (Below.heap_setCell _ _ _ _ (by simp; omega)).trans hDd
    refine ⟨by simp, .inl ⟨_, _, rfl, run_takeDeferred hDd', ?_⟩⟩
    refine ⟨_, results_cell (t := 2) (T := 4) (p := ⟨w.heap.size + 1, 0, none⟩) rfl rfl (loadVar4 _ _ _ (Boxed.cell hbt)), by rw [HS.out], ?_⟩
    exact (hB.setCell (p := ⟨w.heap.size + 1, 0, none⟩) (Nat.le_succ _) _).trans (hk.below (n := w.heap.size) (by simp; exact hB.size) fun k hk' => by omega)
  case stop =>
    rintro O D c pre A hD hDs hO - hSp ⟨rfl, hb, ⟨x, hx, hox⟩, hB⟩ hDd
    have HS := Lib.hid (may_false hSp hx hox)
    have b1 := hb.cell
    clear hSp hox
    gi_wp2
    have hk : Keeps (fun k => k ≠ D) A (A.putObj D (.deferred none)) := (Keeps.refl _ _).putObj (fun h => h rfl) _
    have hbt := hk.heap hb (by omega)
    refine ⟨by simp, .inl ⟨_, _, rfl, run_takeDeferred hDd, ?_⟩⟩
    refine ⟨_, results_cell (t := 2) (T := 4) (p := ⟨w.heap.size + 1, 0, none⟩) rfl rfl (loadVar4 _ _ _ (Boxed.cell hbt)), by rw [HS.out], ?_⟩
    exact hB.trans (hk.below hB.size fun k hk' => by omega)
end Go.Proofs.YtcplfengdenllaaDoor
