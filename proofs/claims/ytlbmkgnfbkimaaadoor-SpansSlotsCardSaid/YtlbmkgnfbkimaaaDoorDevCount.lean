/- The contract of spans.Count: how many slots a list denotes. -/
import Derived.Test.YtlbmkgnfbkimaaaDoorRuns
import Derived.Test.YtlbmkgnfbkimaaaDoorSpNorm
namespace Go.Proofs.YtlbmkgnfbkimaaaDoor
open Go.RowKit Go.Shelf
attribute [local go_sem] Oper.semAt_some

theorem sumS_append (l : List Sp.S) (s : Sp.S) : sumS (l ++ [s]) = sumS l + (s.2 - s.1 + 1) := by simp [sumS]

theorem bare_bound (pre : List Sp.V) : 0 ≤ sumS (Sp.bare pre) ∧ sumS (Sp.bare pre) ≤ 16384 * pre.length := by
  have := sumS_bound (l := Sp.bare pre) fun s hs => by
    obtain ⟨v, _, rfl⟩ := List.mem_map.1 hs
    exact v.2
  simpa using this

/-- a loop's variable that is a span, boxed, in a block of its own. -/
def SVar (b : Nat) (mk : Nat → Sp.V → Act) (O : Nat → Prop) (x : Sp.V) (a' : Act) (A : World) : Prop :=
  ∃ Bx, b ≤ Bx ∧ ¬ O Bx ∧ A.heap[Bx]? = some (.cells #[.int .i64 x.1.1, .int .i64 x.1.2] 39 (0, 0)) ∧ a' = mk Bx x

theorem SVar.later {b n : Nat} {mk : Nat → Sp.V → Act} {O : Nat → Prop} {x : Sp.V} {a' : Act} {A C : World} (h : SVar b mk O x a' A) (hn : n < b) (hk : Keeps (fun k => k ≠ n) A C) : SVar b mk O x a' C := by
  obtain ⟨Bx, h1, h2, h3, h4⟩ := h
  exact ⟨Bx, h1, h2, hk.heap h3 (by omega), h4⟩

set_option maxRecDepth 100000 in
set_option maxHeartbeats 4000000 in
theorem count_any (a : Option Addr) (cap : Nat) (l : List Sp.S) (w : World) (hl : l.length ≤ 1000000) (hS : Spans w a cap l) :
    CallsIn Fence.wide 0 Tryd.prog 18 #[.slice a l.length cap] w fun e W' => e = .returned (.int .i64 (sumS (Sp.mixS 0 l []))) ∧ Below w.heap.size w W' := by
  have hr := runs_any a cap l (w.alloc (.cells #[.int .i64 0] 3)) hl (hS.later ((Below.refl _ w).alloc (Nat.le_refl _) _))
  clear hS
  refine callsIn_of_wp_marks Tryd.func18 rfl trivial ?_ rfl
  simp only [Tryd.ntmps18, List.size_toArray, List.length_cons, List.length_nil, Nat.reduceAdd, Nat.reduceSub, Array.replicate_succ, Array.replicate_zero, List.push_toArray, List.append_toArray, List.nil_append, List.cons_append]
  gi_wp2_with (refine ⟨trivial, rfl, ?_⟩; refine hr.mono ?_; rintro e w2 ⟨v, rfl, Bp, rfl, hB2, hseq⟩; have HB2 := Lib.hid hB2; have HSQ := Lib.hid hseq; clear hB2 hseq)
  have hB2 := HB2.out
  have hseq := HSQ.out
  clear HB2 HSQ
  have hs1 : (w.alloc (.cells #[.int .i64 0] 3)).heap.size = w.heap.size + 1 := by simp
  rw [hs1] at hseq hB2
  have hsz := hB2.size
  rw [hs1] at hsz
  have hbox0 : Boxed w2 w.heap.size 3 (.int .i64 0) := (hB2.block w.heap.size (by omega)).trans (Boxed.new w 3 (.int .i64 0))
  have hBw : Below w.heap.size w w2 := ((Below.refl _ w).alloc (Nat.le_refl _) _).trans (hB2.mono (by omega))
  refine wpIn_rangeT (gf := 60) (lb := #[.pointer (some ⟨Bp, 0, none⟩)]) rfl (enters_of Tryd.func60 (by kernel_rfl) rfl)
    (hseq (fun k => w.heap.size + 1 ≤ k ∧ k < w2.heap.size) (fun _ => False) (fun k h1 h2 => ⟨h1, h2⟩) (fun k h => h.2) (fun k h => h.elim)) (Below.refl _ _) (fun k h => h.2) (fun k h => h.elim) (fun _ => rfl)
    (fun _ pre W => Boxed W w.heap.size 3 (.int .i64 (sumS (Sp.bare pre))) ∧ Below w.heap.size w W) (fun _ _ _ _ => False) ?hI (fun _ _ _ _ _ h _ => h) (fun _ _ _ _ _ h => h) ⟨hbox0, hBw⟩
    (SVar (w2.heap.size + 2) (fun Bx x => { tmps := #[.slice a l.length cap, undef, .int .i64 0, .pointer (some ⟨w.heap.size, 0, none⟩), .pointer (some ⟨Bx, 0, none⟩), .slice a l.length cap, .func (.func 60) #[] #[.pointer (some ⟨Bp, 0, none⟩)], .agg #[.int .i64 x.1.1, .int .i64 x.1.2], undef, undef, undef, undef, undef, undef, undef, undef, undef], defers := [] }))
    (fun O x a' A C h hk => h.later (by omega) hk) ?assign ?body ?done ?stop
  case hI =>
    rintro O s A C ⟨h1, h2⟩ hk
    have own : ∀ k, k < w2.heap.size → IterS (fun _ => False) w2.heap.size O k := fun k h => ⟨id, .inl h⟩
    exact ⟨hk.heap h1 (own _ (by omega)), h2.trans (hk.below h2.size fun k hk' => own k (by omega))⟩
  case assign =>
    intro O pre x A K hO hA ⟨hb, hB⟩ hK
    have HK := Lib.hid hK
    clear hK
    unfold encS
    gi_wp2
    exact HK.out _ _ ((Keeps.refl _ _).alloc _) ⟨hb.alloc _, hB.alloc hB.size _⟩ ⟨A.heap.size, by omega, fun h => by have := (hO _ h).2; omega, World.alloc_heap_new A _, rfl⟩
  case body =>
    rintro O pre x a' A hO hA ⟨r, hr⟩ ⟨hb, hB⟩ ⟨Bx, hBx, hnO, hcx, rfl⟩ hlen
    have b1 := hb.cell
    have b2 := hb.frozen
    obtain ⟨x1, x2, -, -⟩ := cells_two hcx
    obtain ⟨s1, s2⟩ := bare_bound pre
    have hxv := x.2
    have HS : Hid (sumS (Sp.bare (pre ++ [x])) = sumS (Sp.bare pre) + (x.1.2 - x.1.1 + 1)) := Lib.hid (by rw [← sumS_append]; simp)
    generalize sumS (Sp.bare pre) = z at b1 s1 s2 HS hb
    gi_wp2
    refine ⟨(Keeps.refl _ _).setCell (.inr ?_) _, O, Grows.same (fun k hk => by simp; exact (hO k hk).2), ?_, hB.setCell (p := ⟨w.heap.size, 0, none⟩) (Nat.le_refl _) _⟩
    · rintro (⟨h, _⟩ | h | h)
      · simp at h
        omega
      · exact h
      · have := h.1
        simp at this
        omega
    · rw [HS.out]
      have := hb.set (.int .i64 (z + (x.1.2 - x.1.1 + 1)))
      simpa using this
  case done =>
    rintro O D xs A hD hDs hO - hSx ⟨hb, hB⟩ hDd
    have b1 := hb.cell
    rw [hSx] at b1
    gi_wp2
    refine ⟨by simp, .inl ⟨_, _, rfl, run_takeDeferred hDd, ?_⟩⟩
    exact ⟨_, results_tmp rfl _ _ _, rfl, hB.trans (((Keeps.refl (fun k => k < w.heap.size) A).putObj (by omega) _).below hB.size fun k hk => hk)⟩
  case stop =>
    rintro O D c pre A _ _ _ _ h _ _
    exact h.elim

end Go.Proofs.YtlbmkgnfbkimaaaDoor
