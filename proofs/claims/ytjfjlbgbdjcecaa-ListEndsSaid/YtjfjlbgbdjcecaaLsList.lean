/- The contract of list.list: what any iterators hand out, one after the other, in a row of the call's own. -/
import Derived.Test.YtjfjlbgbdjcecaaLsSeq
import Derived.Test.YtjfjlbgbdjcecaaRoundWp
import Derived.Deep.AppendLies
import Derived.Deep.RegionHeld3
import Derived.LoopNIn
namespace Go.Proofs.Ytjfjlbgbdjcecaa
open Go.RowKit Go.Shelf
attribute [local go_sem] Oper.semAt_some
set_option linter.unusedVariables false
set_option linter.unusedSimpArgs false

/-- an iterator: its function, what it has captured, what it hands out. -/
abbrev Wk := Nat × Array Value × List Ls.El
/-- what they hand out, one after the other. -/
def wkAll (l : List Wk) : List Ls.El := l.flatMap (·.2.2)
/-- iterators in a slice. -/
def Wks (w : World) (a : Option Addr) (cap : Nat) (l : List Wk) : Prop :=
  l.length ≤ cap ∧ cap ≤ 9223372036854775807 ∧ (l = [] ∨ ∃ b off, a = some ⟨b, off, none⟩ ∧ b < w.heap.size ∧ ∀ k, k < l.length → w.cell? ⟨b, off + k, none⟩ = some (.func (.func (l.getD k (0, #[], [])).1) #[] (l.getD k (0, #[], [])).2.1))
/-- each is one. -/
def WkOK (N : Nat) (w : World) (x : Wk) : Prop :=
  (∀ args W, (callFunc x.1 args).run Try.prog W = .ok (.enter x.1 args) W) ∧ SeqB OkE false Try.prog x.1 x.2.1 encE (fun k => k < w.heap.size) (fun _ => False) (fun ys => ys = x.2.2) (fun _ => False) N w
/-- elements as cells. -/
def ecells (l : List Ls.El) : List Value := wcells (l.map (·.2))
theorem ecells_snoc (l m : List Ls.El) (x : Ls.El) : ecells (l ++ (m ++ [x])) = ecells (l ++ m) ++ [.string ⟨x.2.toArray⟩] := by simp [ecells, wcells]
theorem wkAll_take {l : List Wk} {k : Nat} (h : k < l.length) : wkAll (l.take (k + 1)) = wkAll (l.take k) ++ (l.getD k (0, #[], [])).2.2 := by
  rw [take_succ_getD (d := (0, #[], [])) h]
  simp [wkAll]
theorem wkAll_take_le (l : List Wk) (k : Nat) : (wkAll (l.take k)).length ≤ (wkAll l).length := by
  conv => rhs; rw [← List.take_append_drop k l]
  simp only [wkAll, List.flatMap_append, List.length_append]
  omega
/-- the marks of the loops that have ended. -/
def MarksIn (lo hi : Nat) (Ds : List Nat) (W : World) : Prop := Ds.Nodup ∧ ∀ D ∈ Ds, lo ≤ D ∧ D < hi ∧ W.heap[D]? = some (.deferred (some []))
theorem MarksIn.keep {lo hi : Nat} {Ds : List Nat} {S : Nat → Prop} {A C : World} (h : MarksIn lo hi Ds A) (hk : Keeps S A C) (hS : ∀ D, D ∈ Ds → A.heap[D]? = some (.deferred (some [])) → S D) : MarksIn lo hi Ds C :=
  ⟨h.1, fun D hD => ⟨(h.2 D hD).1, (h.2 D hD).2.1, hk.heap (h.2 D hD).2.2 (hS D hD (h.2 D hD).2.2)⟩⟩
theorem MarksIn.abides {lo hi B : Nat} {Ds : List Nat} {α : Type} (hB : hi ≤ B) : AbidesT B (fun _ => False) (fun (_ : Nat → Prop) (_ : List α) W => MarksIn lo hi Ds W) := by
  intro O s A C h hk
  exact h.keep hk fun D hD _ => ⟨id, .inl (by have := (h.2 D hD).2.1; omega)⟩
theorem own_not_mark {w : World} {base : Nat} {e : TypeId} {sz n : Nat} {v : Value} {xs : List Value} {g : Nat} (h : w.ownsRow base e sz v n xs) (hg : v.ownBlock = some g) (hd : w.heap[g]? = some (.deferred (some []))) : False := by
  rcases h.2 with ⟨hv, -⟩ | ⟨g', cap, cur, rfl, -, hgg, -⟩
  · rw [hv] at hg; simp [Value.ownBlock] at hg
  · have e : g' = g := by simpa [Value.ownBlock] using hg
    subst e
    rw [hgg] at hd
    cases hd
/-- what has been listed, between two loops. -/
def LMid (w : World) (xs : List Ls.El) (Ds : List Nat) (W : World) : Prop :=
  (∃ v, Boxed W w.heap.size 22 v ∧ W.ownsRow (w.heap.size + 1) 9 1 v xs.length (ecells xs)) ∧ Below w.heap.size w W ∧ MarksIn (w.heap.size + 1) W.heap.size Ds W
theorem LMid.start (w : World) : LMid w [] [] (w.alloc (.cells #[.slice none 0 0] 22)) :=
  ⟨⟨_, Boxed.new w _ _, World.ownsRow_nil _ _ _ _⟩, (Below.refl _ w).alloc (Nat.le_refl _) _, List.nodup_nil, fun D h => by simp at h⟩

set_option maxRecDepth 100000 in
set_option maxHeartbeats 4000000 in
theorem list_any (a : Option Addr) (cap : Nat) (l : List Wk) (N : Nat) (w : World) (hL : Wks w a cap l) (hOK : ∀ x ∈ l, WkOK N w x) (hN : N ≤ 1000000) (hn : (wkAll l).length ≤ 1000000) :
    CallsIn Fence.wide 0 Try.prog 25 #[.slice a l.length cap] w fun e W' => ∃ u, e = .returned u ∧ RowW w u ((wkAll l).map (·.2)) W' := by
  obtain ⟨iF, hiF, hiF0, hiF1, hiF2⟩ := info_parts info9
  have HL := Lib.hid hL
  have HOK := Lib.hid hOK
  have hlI : (l.length : Int) ≤ 9223372036854775807 := by have := hL.1; have := hL.2.1; omega
  clear hL hOK
  refine callsIn_of_wp_marks Try.func25 rfl trivial ?_ rfl
  simp only [Try.ntmps25, List.size_toArray, List.length_cons, List.length_nil, Nat.reduceAdd, Nat.reduceSub, Array.replicate_succ, Array.replicate_zero, List.push_toArray, List.append_toArray, List.nil_append, List.cons_append]
  gi_wp2
  obtain ⟨I, hI⟩ : ∃ I : Act → World → Prop, I = fun A W => ∃ (k : Nat) (Ds : List Nat) (s5 s11 s12 s13 s14 s22 : Value), k ≤ l.length ∧
      A = { tmps := #[.slice a l.length cap, undef, .slice none 0 0, .pointer (some ⟨w.heap.size, 0, none⟩), undef, s5, undef, undef, .slice a l.length cap, .int .i64 (l.length : Int), .int .i64 (k : Int), s11, s12, s13, s14, undef, undef, undef, undef, undef, undef, undef, s22, undef], defers := Ds.map fun D => { target := .collected D, args := #[] } } ∧
      LMid w (wkAll (l.take k)) Ds W := ⟨_, rfl⟩
  have HI := Lib.hid hI
  refine wpIn_loop I (fun A _ => l.length - (intOf (A.tmps.getD 10 undef)).toNat) (by rw [hI]; exact ⟨0, [], undef, undef, undef, undef, undef, undef, Nat.zero_le _, rfl, by simpa [wkAll] using LMid.start w⟩) ?_
  clear hI
  intro A W hAW
  rw [HI.out] at hAW
  obtain ⟨k, Ds, s5, s11, s12, s13, s14, s22, hk, rfl, hM⟩ := hAW
  by_cases hlt : k < l.length
  · obtain ⟨b, off, rfl, hb, hc⟩ : ∃ b off, a = some ⟨b, off, none⟩ ∧ b < w.heap.size ∧ ∀ k, k < l.length → w.cell? ⟨b, off + k, none⟩ = some (.func (.func (l.getD k (0, #[], [])).1) #[] (l.getD k (0, #[], [])).2.1) := by
      rcases HL.out.2.2 with h | h
      · rw [h] at hlt; simp at hlt
      · exact h
    have c1 := (hM.2.1.cell (p := ⟨b, off + k, none⟩) hb).trans (hc k hlt)
    have hW := HOK.out (l.getD k (0, #[], [])) (by rw [getD_eq hlt]; exact List.getElem_mem hlt)
    have HT := Lib.hid (wkAll_take hlt)
    have hTle := wkAll_take_le l k
    generalize l.getD k (0, #[], []) = x at c1 hW HT
    obtain ⟨gf, lb, ys⟩ := x
    obtain ⟨heg, hseq⟩ := hW
    simp only at c1 heg hseq HT
    have hkI : (k : Int) < (l.length : Int) := by omega
    have HM := Lib.hid hM
    have HC := Lib.hid c1
    clear hM hc
    gi_wp2
    clear c1
    generalize hxs : wkAll (l.take k) = xs0 at HM HT hTle
    clear hxs
    obtain ⟨⟨v0, hv0, hr0⟩, hB0, hD0⟩ := HM.out
    have hz0 := hB0.size
    have hbx0 := hv0.lt
    refine wpIn_rangeB (gf := gf) (lb := lb) rfl heg hseq hB0 (fun k h => by omega) (fun k h => h.elim) (fun _ => rfl)
      (fun O pre W' => LInv 22 9 1 ecells W.heap.size w xs0 O pre W' ∧ MarksIn (w.heap.size + 1) W.heap.size Ds W') (fun _ _ _ _ => False) ((LInv.abides hbx0).and (MarksIn.abides (Nat.le_refl _))) (fun _ _ _ _ _ h _ => h) (fun _ _ _ _ _ h => h)
      ⟨⟨⟨v0, hv0, by simpa using hr0, fun g hg => .inr (hr0.lt g hg).2⟩, hB0⟩, hD0⟩
      (fun _ x a' _ => a' = { tmps := #[.slice (some ⟨b, off, none⟩) l.length cap, undef, .slice none 0 0, .pointer (some ⟨w.heap.size, 0, none⟩), undef, .func (.func gf) #[] lb, undef, .string ⟨x.2.toArray⟩, .slice (some ⟨b, off, none⟩) l.length cap, .int .i64 (l.length : Int), .int .i64 (k : Int), .bool true, .pointer (some ⟨b, off + k, none⟩), .func (.func gf) #[] lb, .func (.func gf) #[] lb, .int .i64 (x.1 : Int), .string ⟨x.2.toArray⟩, undef, undef, undef, undef, undef, s22, undef], defers := [] })
      (fun O x a' A C h hk => h) ?assign ?body ?done ?stop
    case assign =>
      intro O pre x A K hO hA hi hK
      have HK := Lib.hid hK
      have HI := Lib.hid hi
      clear hK hi
      unfold encE
      gi_wp2
      exact HK.out _ _ (Keeps.refl _ _) HI.out rfl
    case body =>
      rintro O pre x a' A hO hA ⟨r, hr⟩ ⟨⟨⟨v, hv, hrow, hown⟩, hB⟩, hD⟩ rfl hlen hT
      obtain ⟨xi, x1⟩ := x
      have HC1 := Lib.hid (fun W => clone_any x1 W (by have : x1.length ≤ 1000000 := hT; omega))
      have hzB := hB.size
      have hpl : (xs0 ++ pre).length ≤ 2000000 := by rw [List.length_append]; omega
      have HS0 : A.drew.cell? ⟨w.heap.size, 0, none⟩ = some v := (World.cell?_drew _ _).trans hv.cell
      clear HI HM HL HOK HT
      refine wpIn_block ?_
      dsimp only
      refine wpIn_region_L (S := fun W => W.cell? ⟨w.heap.size, 0, none⟩ = some v) (f := 5) (by kernel_rfl) own_block_no (by kernel_rfl) ?_
      refine wpAnyL_take (i := 0) (some 17) (v := v) rfl rfl (by kernel_rfl) (by kernel_rfl) (by kernel_rfl) (by kernel_rfl) (fun _ _ _ h => h) (by rfl) (fun W hS => ?_) HS0 ?_
      · have m0 := hS
        go_simp
      try simp only [Act.put, List.setIfInBounds_toArray, List.set_cons_zero, List.set_cons_succ]
      refine wpAnyL_take (i := 1) (some 18) (v := .string ⟨x1.toArray⟩) rfl rfl (by kernel_rfl) (by kernel_rfl) (by kernel_rfl) (by kernel_rfl) (fun _ _ _ h => h) (by rfl) (fun W hS => ?_) HS0 ?_
      · have m0 := hS
        go_simp
      try simp only [Act.put, List.setIfInBounds_toArray, List.set_cons_zero, List.set_cons_succ]
      refine wpAnyL_one (j := 2) (by kernel_rfl) rfl (by rfl) (fun K hK => ?_)
      go_simp
      with_reducible refine (HC1.out _).mono ?_
      rintro e w3 ⟨rfl, hb⟩
      have HS1 := cell_next HS0 hb
      have HB1 := Lib.hid hb
      clear hb
      refine hK _ _ (fun _ => HS1) ?_
      clear hK K
      try simp only [Act.put, List.setIfInBounds_toArray, List.set_cons_zero, List.set_cons_succ]
      refine wpAnyL_one (j := 3) (by kernel_rfl) rfl (by rfl) (fun K hK => ?_)
      refine oper_wp_val (v := .slice (some ⟨w3.heap.size, 0, none⟩) 1 1) (w' := w3.alloc (.cells #[.string ⟨x1.toArray⟩] 9)) (by go_simp) ?_
      have hk2 : Keeps (fun _ => True) A w3 := ((Keeps.refl (fun _ => True) A).drew.trans (Keeps.of_below HB1.out fun _ h _ => h))
      have hz2 := hk2.size
      have HO2 := Lib.hid (owns_kept (S := fun _ => True) hrow hk2 fun _ _ => trivial)
      have HK2 := Lib.hid hk2
      have HS3 := cell_next HS1 ((Below.refl _ w3).alloc (Nat.le_refl _) (.cells #[.string ⟨x1.toArray⟩] 9))
      refine hK _ _ (fun _ => HS3) ?_
      clear hK K hk2
      try simp only [Act.put, List.setIfInBounds_toArray, List.set_cons_zero, List.set_cons_succ]
      refine wpAnyL_one (j := 4) (by kernel_rfl) rfl (by rfl) (fun K hK => ?_)
      refine wp_append_lies _ (.tmp 17) (.tmp 20) 22 rfl (w.heap.size + 1) 9 iF _ 1 16 Try.underlying22 hiF hiF0 hiF1 hiF2 rfl (by decide) v (xs0 ++ pre).length (ecells (xs0 ++ pre)) rfl (HO2.out.alloc _) ⟨w3.heap.size, 0, none⟩ 1 1 [.string ⟨x1.toArray⟩] rfl rfl (one_news w3 _ rfl _ _) (by simp [Value.oneCell']) (by decide) (by unfold maxLen; omega) (by omega) (by simp; omega) _ rfl ?_
      intro g cap2 w4 hown3 hgrow hat hlt3
      have HE := Lib.hid (fun aa => LInv.round (Dt := fun k => k < w.heap.size) (cells := ecells) (init := xs0) (pre := pre) (t := 22) (e := 9) (sz := 1) (x := (xi, x1)) (aa := aa) (Ix := fun _ _ _ _ => False) hv hrow hown hB hO hbx0 (fun _ h => h) HK2.out (ecells_snoc _ _ _) hown3 hgrow hat hlt3)
      have hne : some w.heap.size ≠ v.ownBlock := fun e => by have := (hrow.lt _ e.symm).1; omega
      have hk4 : Keeps (fun k => some k ≠ v.ownBlock) A w4 := ((HK2.out.mono fun _ _ _ => trivial).alloc _).trans (Keeps.of_grown (S := fun k => some k ≠ v.ownBlock) hgrow fun r e h => h e.symm)
      have hv3 : Boxed w4 w.heap.size 22 v := hk4.heap hv hne
      have HS4 := hv3.cell
      have f4 := hv3.frozen
      have HD4 := Lib.hid (fun u => (hD.keep hk4 fun D hDm hDd => fun e => own_not_mark hrow e.symm hDd).keep ((Keeps.refl (fun k => k ≠ w.heap.size) w4).setCell (p := ⟨w.heap.size, 0, none⟩) (.inr (fun h => h rfl)) u) fun D hDm _ => by have := (hD.2 D hDm).1; omega)
      clear hown3 hgrow hat hlt3 hk4
      refine hK _ _ (fun _ => HS4) ?_
      clear hK K
      try simp only [Act.put, List.setIfInBounds_toArray, List.set_cons_zero, List.set_cons_succ]
      refine wpAnyL_one (j := 5) (by kernel_rfl) rfl (by rfl) (fun K hK => ?_)
      go_simp
      refine hK _ _ (fun h => (h rfl).elim) ?_
      clear hK K
      try simp only [Act.put, List.setIfInBounds_toArray, List.set_cons_zero, List.set_cons_succ]
      refine wpAnyL_done (by kernel_rfl) ?_ _
      rw [show xs0.length + pre.length = (xs0 ++ pre).length from List.length_append.symm]
      obtain ⟨e1, O', e2, e3⟩ := HE.out { tmps := #[], defers := [] }
      exact ⟨e1, O', e2, e3, HD4.out _⟩
    case done =>
      rintro O D zs A hDl hDs hO - rfl ⟨⟨⟨v, hv, hrow, hown⟩, hB⟩, hD⟩ hDd
      have HM2 : Hid (LMid w (xs0 ++ zs) (D :: Ds) A) := Lib.hid ⟨⟨v, hv, hrow⟩, hB, List.nodup_cons.2 ⟨fun h => by have := (hD.2 D h).2.1; omega, hD.1⟩, fun E hE => by
        rcases List.mem_cons.1 hE with rfl | hE
        · exact ⟨by omega, hDs, hDd⟩
        · have := hD.2 E hE
          exact ⟨this.1, by omega, this.2.2⟩⟩
      have hkn : IntKind.i64.wrap ((k : Int) + 1) = (k : Int) + 1 := IntWalk.i64_in _ (by omega)
      clear hv hrow hown hB hD hDd hv0 hr0 hB0 hD0 HM
      gi_wp2
      refine ⟨?_, by simp [intOf]; omega⟩
      rw [HI.out]
      exact ⟨k + 1, D :: Ds, _, _, _, _, _, _, by omega, rfl, by rw [HT.out]; exact HM2.out⟩
    case stop =>
      rintro O D c pre A _ _ _ _ h _ _
      exact h.elim
  · obtain rfl : k = l.length := by omega
    rw [List.take_length] at hM
    have HM := Lib.hid hM
    obtain ⟨⟨v, hv, hrow⟩, hB, hD⟩ := hM
    have b1 := hv.cell
    clear hv hrow hB hD
    gi_wp2
    refine leaves_marks Ds W HM.out.2.2.1 (fun D hD => (HM.out.2.2.2 D hD).2.2) fun W' hk => ?_
    obtain ⟨⟨v2, hv2, hrow2⟩, hB2, hD2⟩ := HM.out
    obtain rfl : v2 = v := by
      have := hv2.cell
      rw [b1] at this
      exact (Option.some.inj this).symm
    refine ⟨_, results_tmp rfl _ _ _, v2, rfl, ?_, ?_⟩
    · rw [List.length_map]
      exact owns_base (owns_kept hrow2 hk fun g hg hgD => own_not_mark hrow2 hg (hD2.2 g hgD).2.2) (Nat.le_succ _)
    · exact hB2.trans (hk.below hB2.size fun D hD hDm => by have := (hD2.2 D hDm).1; omega)
end Go.Proofs.Ytjfjlbgbdjcecaa
