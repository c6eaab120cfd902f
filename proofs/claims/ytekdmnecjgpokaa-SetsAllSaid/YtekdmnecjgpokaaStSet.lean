/- The contract of sets.set: what an iterator hands out, in a row of the call's own. -/
import Derived.Test.YtekdmnecjgpokaaStBase
import Derived.Test.YtekdmnecjgpokaaRoundWp
import Derived.Deep.AppendLies
import Derived.Deep.RegionHeld3
namespace Go.Proofs.Ytekdmnecjgpokaa
open Go.RowKit Go.Shelf
attribute [local go_sem] Oper.semAt_some
set_option linter.unusedVariables false
set_option linter.unusedSimpArgs false

theorem wcells_snoc (l m : List (List UInt8)) (x : List UInt8) : wcells (l ++ (m ++ [x])) = wcells (l ++ m) ++ [.string ⟨x.toArray⟩] := by simp [wcells]

set_option maxRecDepth 100000 in
set_option maxHeartbeats 4000000 in
theorem set_any (gf : Nat) (lb : Array Value) (eg : ∀ args w, (callFunc gf args).run Try.prog w = .ok (.enter gf args) w) (N : Nat) (ws : List St.Bs) (w0 w : World) (hN : N ≤ 1000000) (hb0 : Below w0.heap.size w0 w)
    (hseq : SeqB OkW false Try.prog gf lb encW (fun k => k < w0.heap.size) (fun _ => False) (fun ys => ys = ws) (fun _ => False) N w0) :
    CallsIn Fence.wide 0 Try.prog 22 #[.func (.func gf) #[] lb] w fun e W' => ∃ u, e = .returned u ∧ RowW w u ws W' := by
  obtain ⟨iF, hiF, hiF0, hiF1, hiF2⟩ := info_parts info9
  have HSQ := Lib.hid hseq
  have HB0 := Lib.hid hb0
  have hz0 := hb0.size
  clear hseq hb0
  refine callsIn_of_wp_marks Try.func22 rfl trivial ?_ rfl
  simp only [Try.ntmps22, List.size_toArray, List.length_cons, List.length_nil, Nat.reduceAdd, Nat.reduceSub, Array.replicate_succ, Array.replicate_zero, List.push_toArray, List.append_toArray, List.nil_append, List.cons_append]
  gi_wp2
  obtain ⟨w1, hw1⟩ : ∃ w1, w.alloc (.cells #[.slice none 0 0] 25) = w1 := ⟨_, rfl⟩
  have hs1 : w1.heap.size = w.heap.size + 1 := by rw [← hw1]; simp
  have hbx : Boxed w1 w.heap.size 25 (.slice none 0 0) := by rw [← hw1]; exact Boxed.new w _ _
  have hB1 : Below w.heap.size w w1 := by rw [← hw1]; exact (Below.refl _ w).alloc (Nat.le_refl _) _
  rw [hw1]
  clear hw1
  refine wpIn_rangeB (gf := gf) (lb := lb) rfl eg HSQ.out (HB0.out.trans (hB1.mono hz0)) (fun k h => by omega) (fun k h => h.elim) (fun _ => rfl)
    (LInv 25 9 1 wcells w1.heap.size w []) (fun _ _ _ _ => False) (LInv.abides (by omega)) (fun _ _ _ _ _ h _ => h) (fun _ _ _ _ _ h => h)
    ⟨⟨_, hbx, World.ownsRow_nil _ _ _ _, by simp [Value.ownBlock]⟩, hB1⟩
    (fun _ x a' _ => a' = { tmps := #[.func (.func gf) #[] lb, undef, .slice none 0 0, .pointer (some ⟨w.heap.size, 0, none⟩), .string ⟨x.toArray⟩, .func (.func gf) #[] lb, .string ⟨x.toArray⟩, undef, undef, undef, undef, undef, undef], defers := [] })
    (fun O x a' A C h hk => h) ?assign ?body ?done ?stop
  case assign =>
    intro O pre x A K hO hA hi hK
    have HK := Lib.hid hK
    have HI := Lib.hid hi
    clear hK hi
    unfold encW
    gi_wp2
    exact HK.out _ _ (Keeps.refl _ _) HI.out rfl
  case body =>
    rintro O pre x a' A hO hA ⟨r, hr⟩ ⟨⟨v, hv, hrow, hown⟩, hB⟩ rfl hlen hT
    have HC1 := Lib.hid (fun W => clone_any x W (by have : x.length ≤ 1000000 := hT; omega))
    have hzB := hB.size
    have hpl : ([] ++ pre).length ≤ 2000000 := by rw [List.nil_append]; omega
    have HS0 : A.drew.cell? ⟨w.heap.size, 0, none⟩ = some v := (World.cell?_drew _ _).trans hv.cell
    refine wpIn_block ?_
    try dsimp only
    refine wpIn_region_L (S := fun W => W.cell? ⟨w.heap.size, 0, none⟩ = some v) (f := 5) (by kernel_rfl) own_block_no (by kernel_rfl) ?_
    refine wpAnyL_take (i := 0) (some 7) (v := v) rfl rfl (by kernel_rfl) (by kernel_rfl) (by kernel_rfl) (by kernel_rfl) (fun _ _ _ h => h) (by rfl) (fun W hS => ?_) HS0 ?_
    · have m0 := hS
      go_simp
    try simp only [Act.put, List.setIfInBounds_toArray, List.set_cons_zero, List.set_cons_succ]
    refine wpAnyL_take (i := 1) (some 8) (v := .string ⟨x.toArray⟩) rfl rfl (by kernel_rfl) (by kernel_rfl) (by kernel_rfl) (by kernel_rfl) (fun _ _ _ h => h) (by rfl) (fun W hS => ?_) HS0 ?_
    · have m0 := hS
      go_simp
    try simp only [Act.put, List.setIfInBounds_toArray, List.set_cons_zero, List.set_cons_succ]
    refine wpAnyL_one (j := 2) (by kernel_rfl) rfl (by rfl) (fun K hK => ?_)
    go_simp
    with_reducible refine (HC1.out _).mono ?_
    rintro e w3 ⟨rfl, hb⟩
    have HS1 := cell_next HS0 hb
    have HB1 := Lib.hid hb
    clear hb
    refine hK _ _ (fun _ => HS1) ?_
    clear hK K
    try simp only [Act.put, List.setIfInBounds_toArray, List.set_cons_zero, List.set_cons_succ]
    refine wpAnyL_one (j := 3) (by kernel_rfl) rfl (by rfl) (fun K hK => ?_)
    refine oper_wp_val (v := .slice (some ⟨w3.heap.size, 0, none⟩) 1 1) (w' := w3.alloc (.cells #[.string ⟨x.toArray⟩] 9)) (by go_simp) ?_
    have hk2 : Keeps (fun _ => True) A w3 := ((Keeps.refl (fun _ => True) A).drew.trans (Keeps.of_below HB1.out fun _ h _ => h))
    have hz2 := hk2.size
    have HO2 := Lib.hid (owns_kept (S := fun _ => True) hrow hk2 fun _ _ => trivial)
    have HK2 := Lib.hid hk2
    have HS3 := cell_next HS1 ((Below.refl _ w3).alloc (Nat.le_refl _) (.cells #[.string ⟨x.toArray⟩] 9))
    refine hK _ _ (fun _ => HS3) ?_
    clear hK K hk2
    try simp only [Act.put, List.setIfInBounds_toArray, List.set_cons_zero, List.set_cons_succ]
    refine wpAnyL_one (j := 4) (by kernel_rfl) rfl (by rfl) (fun K hK => ?_)
    refine wp_append_lies _ (.tmp 7) (.tmp 10) 25 rfl (w.heap.size + 1) 9 iF _ 1 16 Try.underlying25 hiF hiF0 hiF1 hiF2 rfl (by decide) v ([] ++ pre).length (wcells ([] ++ pre)) rfl (HO2.out.alloc _) ⟨w3.heap.size, 0, none⟩ 1 1 [.string ⟨x.toArray⟩] rfl rfl (one_news w3 _ rfl _ _) (by simp [Value.oneCell']) (by decide) (by unfold maxLen; omega) (by omega) (by simp; omega) _ rfl ?_
    intro g cap2 w4 hown3 hgrow hat hlt3
    have HE := Lib.hid (fun aa => LInv.round (Dt := fun k => k < w0.heap.size) (cells := wcells) (init := []) (pre := pre) (t := 25) (e := 9) (sz := 1) (x := x) (aa := aa) (Ix := fun _ _ _ _ => False) hv hrow hown hB hO (by omega) (fun _ h => by omega) HK2.out (wcells_snoc _ _ _) hown3 hgrow hat hlt3)
    have hne : some w.heap.size ≠ v.ownBlock := fun e => by have := (hrow.lt _ e.symm).1; omega
    have hk4 : Keeps (fun k => some k ≠ v.ownBlock) A w4 := ((HK2.out.mono fun _ _ _ => trivial).alloc _).trans (Keeps.of_grown (S := fun k => some k ≠ v.ownBlock) hgrow fun r e h => h e.symm)
    have hv3 : Boxed w4 w.heap.size 25 v := hk4.heap hv hne
    have HS4 := hv3.cell
    have f4 := hv3.frozen
    clear hown3 hgrow hat hlt3 hk4
    refine hK _ _ (fun _ => HS4) ?_
    clear hK K
    try simp only [Act.put, List.setIfInBounds_toArray, List.set_cons_zero, List.set_cons_succ]
    refine wpAnyL_one (j := 5) (by kernel_rfl) rfl (by rfl) (fun K hK => ?_)
    go_simp
    refine hK _ _ (fun h => (h rfl).elim) ?_
    clear hK K
    try simp only [Act.put, List.setIfInBounds_toArray, List.set_cons_zero, List.set_cons_succ]
    refine wpAnyL_done (by kernel_rfl) ?_ _
    exact HE.out { tmps := #[], defers := [] }
  case done =>
    rintro O D ys A hD hDs hO - rfl ⟨⟨v, hv, hrow, hown⟩, hB⟩ hDd
    have b1 := hv.cell
    have hk : Keeps (fun k => k ≠ D) A (A.putObj D (.deferred none)) := (Keeps.refl _ A).putObj (fun h => h rfl) _
    gi_wp2
    refine ⟨by simp, .inl ⟨_, _, rfl, run_takeDeferred hDd, ?_⟩⟩
    refine ⟨_, results_tmp rfl _ _ _, v, rfl, ?_, hB.trans (hk.below hB.size fun k hk => by omega)⟩
    have := owns_base (owns_kept hrow hk (fun g hg => by
      rcases hown g hg with h | h
      · have := (hO g h).1; omega
      · omega)) (show w.heap.size ≤ w.heap.size + 1 by omega)
    simpa using this
  case stop =>
    rintro O D c pre A _ _ _ _ h _ _
    exact h.elim
end Go.Proofs.Ytekdmnecjgpokaa
