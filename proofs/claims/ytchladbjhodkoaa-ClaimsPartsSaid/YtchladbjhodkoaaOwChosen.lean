/- The contract of claims.chosen. -/
import Derived.Test.YtchladbjhodkoaaOwPick
import Derived.Test.YtchladbjhodkoaaSpVar
import Derived.Maps.OwnIn
namespace Go.Proofs.Ytchladbjhodkoaa
open Go.RowKit Go.Shelf
attribute [local go_sem] Oper.semAt_some

/-- between two pieces: the wish, and the list that grows. -/
def KInv (w : World) (pf : Nat) (want : Option Ow.O → Option Ow.O → Option Ow.O) (O : Nat → Prop) (pre : List Ow.PV) (W : World) : Prop :=
  (∃ v, Boxed W (w.heap.size + 1) 22 v ∧ W.ownsRow (w.heap.size + 2) 49 4 v (Ow.chosenP want pre).length (flat4 (Ow.chosenP want pre)) ∧ ∀ g, v.ownBlock = some g → O g) ∧
  Boxed W w.heap.size 68 (.func (.func pf) #[] #[]) ∧ Below w.heap.size w W

/-- the loop's variables, boxed. -/
def KVar (b : Nat) (mk : Nat → Ow.PV → Act) (O : Nat → Prop) (x : Ow.PV) (a' : Act) (A : World) : Prop :=
  ∃ Bx, b ≤ Bx ∧ ¬ O Bx ∧ ¬ O (Bx + 1) ∧ A.heap[Bx]? = some (.cells #[.int .i64 x.1.1.1, .int .i64 x.1.1.2] 51 (0, 0)) ∧
    A.heap[Bx + 1]? = some (.cells #[.int .i64 (Ow.zo x.2.1.1).1, .int .i64 (Ow.zo x.2.1.1).2, .int .i64 (Ow.zo x.2.1.2).1, .int .i64 (Ow.zo x.2.1.2).2] 65 (0, 0)) ∧ a' = mk Bx x

theorem KVar.later {b n : Nat} {mk : Nat → Ow.PV → Act} {O : Nat → Prop} {x : Ow.PV} {a' : Act} {A C : World} (h : KVar b mk O x a' A) (hn : n < b) (hk : Keeps (fun k => k ≠ n) A C) : KVar b mk O x a' C := by
  obtain ⟨Bx, h1, h2, h3, h4, h5, h6⟩ := h
  exact ⟨Bx, h1, h2, h3, hk.heap h4 (by omega), hk.heap h5 (by omega), h6⟩

theorem row_kept {w w' : World} {base : Nat} {e : TypeId} {size n : Nat} {v : Value} {xs : List Value} {S : Nat → Prop} (h : w.ownsRow base e size v n xs) (hk : Keeps S w w') (hS : ∀ g, v.ownBlock = some g → S g) : w'.ownsRow base e size v n xs := by
  refine ⟨h.1, ?_⟩
  rcases h.2 with hn | ⟨g, cap, cur, rfl, hb, hg, rest⟩
  · exact .inl hn
  · exact .inr ⟨g, cap, cur, rfl, hb, hk.heap hg (hS g rfl), rest⟩

theorem chosen_end {pf : Nat} {want : Option Ow.O → Option Ow.O → Option Ow.O} {w A w4 w5 : World} {b : Nat} {O : Nat → Prop} {pre : List Ow.PV} {x : Ow.PV} {v : Value} {g cap n : Nat}
    (hv : Boxed A (w.heap.size + 1) 22 v) (hpb : Boxed A w.heap.size 68 (.func (.func pf) #[] #[])) (hlt : ∀ k, v.ownBlock = some k → w.heap.size + 2 ≤ k ∧ k < A.heap.size) (hown : ∀ g, v.ownBlock = some g → O g)
    (hB : Below w.heap.size w A) (hO : ∀ k, O k → b + 2 ≤ k ∧ k < A.heap.size) (hb : b = w.heap.size + 1 + 1 + 1 + 1) (h4 : Below A.heap.size A w4) (h5 : Keeps (fun k => some k ≠ v.ownBlock) w4 w5)
    (h6 : w5.ownsRow (w.heap.size + 2) 49 4 (.slice (some ⟨g, 0, none⟩) n cap) (Ow.chosenP want (pre ++ [x])).length (flat4 (Ow.chosenP want (pre ++ [x]))))
    (h7 : (Value.slice (some ⟨g, 0, none⟩) n cap).ownBlock = v.ownBlock ∨ ∃ g', (Value.slice (some ⟨g, 0, none⟩) n cap).ownBlock = some g' ∧ w4.heap.size ≤ g') (aa : Act) :
    ownPostT (RoundS (fun k => k < w.heap.size) (fun _ => False) b O) O (KInv w pf want) (fun _ _ _ _ => False) (pre ++ [x]) A .normal aa (w5.setCell ⟨w.heap.size + 1, 0, none⟩ (.slice (some ⟨g, 0, none⟩) n cap)) := by
  have hsA := hB.size
  have hs4 := h4.size
  have hs5 := h5.size
  have hb1 : w.heap.size + 1 < A.heap.size := (Array.getElem?_eq_some_iff.1 hv).1
  have hK : Keeps (fun k => some k ≠ v.ownBlock) A w5 := (Keeps.of_below h4 fun k h _ => h).trans h5
  have hg' := h6.lt g rfl
  have n1 : some (w.heap.size + 1) ≠ v.ownBlock := fun e => by have := (hlt _ e.symm).1; omega
  have n0 : some w.heap.size ≠ v.ownBlock := fun e => by have := (hlt _ e.symm).1; omega
  have hv5 : Boxed w5 (w.heap.size + 1) 22 v := hK.heap hv n1
  refine ⟨?_, fun k => O k ∨ (A.heap.size ≤ k ∧ k < w5.heap.size), ?_, ⟨_, hv5.set _, ?_, ?_⟩, ?_, ?_⟩
  · refine (hK.mono ?_).setCell (.inr ?_) _
    · rintro k hkA h e
      have hg := hlt k e.symm
      rcases h with h | h | h
      · omega
      · exact h
      · exact h.2 (hown k e.symm)
    · rintro (h | h | h)
      · have : w.heap.size + 1 < w.heap.size := h
        omega
      · exact h
      · have := h.1; simp at this; omega
  · rintro k (h | h)
    · exact ⟨by simp; exact Nat.lt_of_lt_of_le (hO k h).2 hK.size, .inl h⟩
    · exact ⟨by simp; exact h.2, .inr h.1⟩
  · exact ownsRow_setCell_below h6 (by simp) _
  · intro k hk
    rcases h7 with e | ⟨g', e, hge⟩
    · exact .inl (hown k (e ▸ hk))
    · rw [hk] at e
      have e' : k = g := by have := hk; simp [Value.ownBlock] at this; exact this.symm
      have := Option.some.inj e
      exact .inr ⟨by omega, by omega⟩
  · have := hK.heap hpb n0
    unfold Boxed at this ⊢
    rw [Below.heap_setCell _ _ _ _ (by simp)]
    exact this
  · exact (hB.trans (hK.below hB.size fun k hk' e => by have := (hlt k e.symm).1; omega)).setCell (p := ⟨w.heap.size + 1, 0, none⟩) (by simp) _

set_option maxRecDepth 100000 in
set_option maxHeartbeats 4000000 in
theorem chosen_any (pf : Nat) (want : Option Ow.O → Option Ow.O → Option Ow.O) (hpick : PickOK pf want) (hw : Ow.OkW want) (eg : ∀ args w, (callFunc pf args).run Try.prog w = .ok (.enter pf args) w)
    (a1 a2 : Option Addr) (cap1 cap2 : Nat) (la lb : List Ow.C) (w : World) (hva : Ow.VL la) (hvb : Ow.VL lb) (hA : Cls w a1 cap1 la) (hB : Cls w a2 cap2 lb) :
    CallsIn Fence.wide 0 Try.prog 35 #[.slice a1 la.length cap1, .slice a2 lb.length cap2, .func (.func pf) #[] #[]] w fun e W' => ∃ v xs, e = .returned v ∧ Ow.PC (Ow.own la) (Ow.own lb) xs 16384 ∧ W'.ownsRow (w.heap.size + 2) 49 4 v (Ow.chosenP want xs).length (flat4 (Ow.chosenP want xs)) ∧ Below w.heap.size w W' := by
  obtain ⟨W2, hW2⟩ : ∃ W2, (w.alloc (.cells #[.func (.func pf) #[] #[]] 68)).alloc (.cells #[.slice none 0 0] 22) = W2 := ⟨_, rfl⟩
  have hs2 : W2.heap.size = w.heap.size + 1 + 1 := by rw [← hW2]; simp
  have hk2 : Keeps (fun _ => True) w W2 := by rw [← hW2]; exact ((Keeps.refl _ w).alloc _).alloc _
  have hb2 : Below w.heap.size w W2 := hk2.below (Nat.le_refl _) (fun _ _ => trivial)
  have b1 : Boxed W2 w.heap.size 68 (.func (.func pf) #[] #[]) := by rw [← hW2]; exact (Boxed.new w _ _).alloc _
  have b2 : Boxed W2 (w.heap.size + 1) 22 (.slice none 0 0) := by
    rw [← hW2]
    have h := Boxed.new (w.alloc (.cells #[.func (.func pf) #[] #[]] 68)) 22 (.slice none 0 0)
    rwa [World.size_alloc] at h
  obtain ⟨W0, hW0⟩ : ∃ W0, (W2.alloc (.cells #[.slice a1 la.length cap1] 22)).alloc (.cells #[.slice a2 lb.length cap2] 22) = W0 := ⟨_, rfl⟩
  have hs0 : W0.heap.size = w.heap.size + 1 + 1 + 1 + 1 := by rw [← hW0]; simp [hs2]
  have hk0 : Keeps (fun _ => True) W2 W0 := by rw [← hW0]; exact ((Keeps.refl _ W2).alloc _).alloc _
  have hb0 : Below w.heap.size w W0 := hb2.trans (hk0.below (by omega) (fun _ _ => trivial))
  have hbA : W0.cell? ⟨W2.heap.size, 0, none⟩ = some (.slice a1 la.length cap1) := by
    rw [← hW0]; exact ((Boxed.new W2 22 (.slice a1 la.length cap1)).alloc _).cell
  have hbB : W0.cell? ⟨W2.heap.size + 1, 0, none⟩ = some (.slice a2 lb.length cap2) := by
    rw [← hW0]
    have h := Boxed.new (W2.alloc (.cells #[.slice a1 la.length cap1] 22)) 22 (.slice a2 lb.length cap2)
    rw [World.size_alloc] at h
    exact h.cell
  have hin := pieces_seq W2.heap.size (W2.heap.size + 1) a1 a2 cap1 cap2 la lb W0 hva hvb (by omega) (by omega) hbA hbB (hA.later hb0) (hB.later hb0) (fun k => k < w.heap.size) (fun _ => False)
    (fun hne x hx => by
      rcases hA.2.2.2 with h | ⟨b, off, rfl, h, _⟩
      · exact absurd h hne
      · cases hx; exact h)
    (fun hne x hx => by
      rcases hB.2.2.2 with h | ⟨b, off, rfl, h, _⟩
      · exact absurd h hne
      · cases hx; exact h)
  rw [hs2] at hin
  have HIN := Lib.hid hin
  have hi0 : KInv w pf want (fun _ => False) [] W0 := ⟨⟨_, hk0.heap b2 trivial, World.ownsRow_nil _ _ _ _, by simp [Value.ownBlock]⟩, hk0.heap b1 trivial, hb0⟩
  have HI0 := Lib.hid hi0
  clear hin hi0 hbA hbB hA hB hk0 hk2 b1 b2
  refine callsIn_of_wp_marks Try.func35 rfl trivial ?_ rfl
  simp only [Try.ntmps35, List.size_toArray, List.length_cons, List.length_nil, Nat.reduceAdd, Nat.reduceSub, Array.replicate_succ, Array.replicate_zero, List.push_toArray, List.append_toArray, List.nil_append, List.cons_append]
  gi_wp2_with (refine ⟨trivial, rfl, ?_⟩; refine (pieces_any (.slice a1 la.length cap1) (.slice a2 lb.length cap2) _ ⟨_, _, _, rfl⟩ ⟨_, _, _, rfl⟩).mono ?_; rintro e w1 ⟨rfl, rfl⟩)
  clear hW0 hW2 hb0 hb2
  have HPK := Lib.hid hpick
  have HWW := Lib.hid hw
  clear hpick hw
  refine wpIn_rangeT (gf := 55) (lb := #[.pointer (some ⟨w.heap.size + 1 + 1, 0, none⟩), .pointer (some ⟨w.heap.size + 1 + 1 + 1, 0, none⟩)]) rfl (enters_of Try.func55 (by kernel_rfl) rfl) HIN.out (Below.refl _ _) (fun k h => by omega) (fun k h => h.elim) (fun _ => rfl)
    (KInv w pf want) (fun _ _ _ _ => False) ?hI (fun _ _ _ _ _ h _ => h) (fun _ _ _ _ _ h => h) HI0.out
    (KVar (W0.heap.size + 2) (fun Bx x => { tmps := #[.slice a1 la.length cap1, .slice a2 lb.length cap2, .func (.func pf) #[] #[], undef, undef, .pointer (some ⟨w.heap.size, 0, none⟩), .slice none 0 0, .pointer (some ⟨w.heap.size + 1, 0, none⟩), .pointer (some ⟨Bx, 0, none⟩), .pointer (some ⟨Bx + 1, 0, none⟩), undef, .slice a1 la.length cap1, .slice a2 lb.length cap2,
      .func (.func 55) #[] #[.pointer (some ⟨w.heap.size + 1 + 1, 0, none⟩), .pointer (some ⟨w.heap.size + 1 + 1 + 1, 0, none⟩)], .agg #[.int .i64 x.1.1.1, .int .i64 x.1.1.2], .agg #[.int .i64 (Ow.zo x.2.1.1).1, .int .i64 (Ow.zo x.2.1.1).2, .int .i64 (Ow.zo x.2.1.2).1, .int .i64 (Ow.zo x.2.1.2).2],
      undef, undef, undef, undef, undef, undef, undef, undef, undef, undef, undef, undef, undef, undef, undef, undef, undef, undef], defers := [] }))
    (fun O x a' A C h hk => h.later (by omega) hk) ?assign ?body ?done ?stop
  case hI =>
    rintro O s A C ⟨⟨v, h1, h2, h3⟩, h4, h5⟩ hk
    have own : ∀ k, k < W0.heap.size → IterS (fun _ => False) W0.heap.size O k := fun k h => ⟨id, .inl h⟩
    exact ⟨⟨v, hk.heap h1 (own _ (by omega)), row_kept h2 hk (fun g hg => ⟨id, .inr (h3 g hg)⟩), h3⟩, hk.heap h4 (own _ (by omega)), h5.trans (hk.below h5.size fun k hk' => own k (by omega))⟩
  case assign =>
    intro O pre x A K hO hA ⟨⟨v, h1, h2, h3⟩, h4, h5⟩ hK
    have HK := Lib.hid hK
    clear hK
    unfold encO
    gi_wp2
    refine HK.out _ _ (((Keeps.refl _ _).alloc _).alloc _) ⟨⟨v, (h1.alloc _).alloc _, (h2.alloc _).alloc _, h3⟩, (h4.alloc _).alloc _, (h5.alloc h5.size _).alloc (by have := h5.size; simp; omega) _⟩ ⟨A.heap.size, by omega, fun h => by have := (hO _ h).2; omega, fun h => by have := (hO _ h).2; omega, ?_, ?_, rfl⟩
    · exact ((Keeps.refl (fun _ => True) (A.alloc (.cells #[.int .i64 x.1.1.1, .int .i64 x.1.1.2] 51))).alloc _).heap (World.alloc_heap_new A _) trivial
    · have h := World.alloc_heap_new (A.alloc (.cells #[.int .i64 x.1.1.1, .int .i64 x.1.1.2] 51)) (.cells #[.int .i64 (Ow.zo x.2.1.1).1, .int .i64 (Ow.zo x.2.1.1).2, .int .i64 (Ow.zo x.2.1.2).1, .int .i64 (Ow.zo x.2.1.2).2] 65)
      rw [World.size_alloc] at h
      exact h
  case body =>
    rintro O pre x a' A hO hA ⟨r, hr⟩ ⟨⟨v, hv, hrow, hown⟩, hpb, hB⟩ ⟨Bx, hBx, hnO, hnO2, hcx, hcd, rfl⟩ hlen
    have hsn := Ow.chosenP_snoc want pre x
    have hcl := Ow.chosenP_len want pre
    have hct := Ow.chosenP_t want pre
    have y1 := hv.cell
    have y2 := hv.frozen
    have q1 := hpb.cell
    obtain ⟨x1, x2, -, -⟩ := cells_two hcx
    have hAx : Bx + 1 < A.heap.size := (Array.getElem?_eq_some_iff.1 hcd).1
    have hAy : w.heap.size + 1 < A.heap.size := (Array.getElem?_eq_some_iff.1 hv).1
    have d1 : A.cell? ⟨Bx + 1, 0, none⟩ = some (.int .i64 (Ow.zo x.2.1.1).1) := by simp [World.cell?, hcd]
    have d2 : A.cell? ⟨Bx + 1, 1, none⟩ = some (.int .i64 (Ow.zo x.2.1.1).2) := by simp [World.cell?, hcd]
    have d3 : A.cell? ⟨Bx + 1, 2, none⟩ = some (.int .i64 (Ow.zo x.2.1.2).1) := by simp [World.cell?, hcd]
    have d4 : A.cell? ⟨Bx + 1, 3, none⟩ = some (.int .i64 (Ow.zo x.2.1.2).2) := by simp [World.cell?, hcd]
    have HPW := fun W => HPK.out x.2.1.1 x.2.1.2 x.2.2.1 x.2.2.2 W
    have hoW := HWW.out _ _ x.2.2.1 x.2.2.2
    have HFIN := Lib.hid (fun (w4 w5 : World) (g cap n : Nat) h4 h5 h6 h7 aa => chosen_end (pf := pf) (want := want) (pre := pre) (x := x) (w4 := w4) (w5 := w5) (g := g) (cap := cap) (n := n) hv hpb (fun k hk => hrow.lt k hk) hown hB hO hs0 h4 h5 h6 h7 aa)
    have HROW := Lib.hid (And.intro hrow (And.intro hown (And.intro hv (And.intro hpb hB))))
    have HCT := Lib.hid hct
    have HSN := Lib.hid hsn
    have hsB := hB.size
    generalize (Ow.zo x.2.1.1).1 = n1 at *
    generalize (Ow.zo x.2.1.1).2 = e1 at *
    generalize (Ow.zo x.2.1.2).1 = n2 at *
    generalize (Ow.zo x.2.1.2).2 = e2 at *
    clear hrow hown hB hct hsn hv hpb hcx hcd
    cases hq : want x.2.1.1 x.2.1.2 with
    | none =>
      rw [hq] at HPW
      have HPH : Hid (∀ W, CallsIn Fence.wide 0 Try.prog pf #[.agg #[.int .i64 n1, .int .i64 e1, .int .i64 n2, .int .i64 e2]] W fun e W' => e = .returned (.agg #[.int .i64 0, .int .i64 0]) ∧ Below W.heap.size W W') := Lib.hid HPW
      have HQ : Hid (Ow.chosenP want (pre ++ [x]) = Ow.chosenP want pre) := Lib.hid (by rw [HSN.out, Ow.stepP, hq])
      clear HPW hoW hq HFIN HSN HCT
      gi_wp2_with (refine ⟨trivial, rfl, ?_⟩; refine (HPH.out _).mono ?_; rintro e w3 ⟨rfl, hb⟩; have HB3 := Lib.hid hb; clear hb)
      obtain ⟨hrow, hown, hv, hpb, hB⟩ := HROW.out
      have hb4 : Below A.heap.size A (w3.alloc (.cells #[.int .i64 0, .int .i64 0] 63)) := HB3.out.alloc HB3.out.size _
      have hk4 : Keeps (fun k => k < A.heap.size) A (w3.alloc (.cells #[.int .i64 0, .int .i64 0] 63)) := Keeps.of_below hb4 fun k h _ => h
      refine ⟨Keeps.of_below hb4 fun k h _ => h, O, Grows.same (fun k hk => Nat.lt_of_lt_of_le (hO k hk).2 hb4.size), ⟨v, hk4.heap hv (by omega), ?_, hown⟩, hk4.heap hpb (by omega), hB.trans (hb4.mono hB.size)⟩
      rw [HQ.out]
      exact row_kept hrow hk4 (fun g hg => (hrow.lt g hg).2)
    | some o =>
      obtain ⟨no, eo⟩ := o
      rw [hq] at HPW hoW
      have hoe := hoW _ rfl
      have HPH : Hid (∀ W, CallsIn Fence.wide 0 Try.prog pf #[.agg #[.int .i64 n1, .int .i64 e1, .int .i64 n2, .int .i64 e2]] W fun e W' => e = .returned (.agg #[.int .i64 no, .int .i64 eo]) ∧ Below W.heap.size W W') := Lib.hid HPW
      have HQ : Hid (Ow.chosenP want (pre ++ [x]) = Ow.more (Ow.chosenP want pre) ⟨x.1.1.1, x.1.1.2, no, eo⟩) := Lib.hid (by rw [HSN.out, Ow.stepP, hq])
      have hne : ¬ eo = 0 := by simp only at hoe; omega
      have HAD : Hid (∀ w4, Below A.heap.size A w4 → Calls Try.prog 49 #[v, .agg #[.int .i64 x.1.1.1, .int .i64 x.1.1.2, .int .i64 no, .int .i64 eo]] w4 (MoreOut w4 (w.heap.size + 2) v (Ow.chosenP want pre) ⟨x.1.1.1, x.1.1.2, no, eo⟩)) := Lib.hid fun w4 hb4 =>
        added_any (w.heap.size + 2) v (Ow.chosenP want pre) ⟨x.1.1.1, x.1.1.2, no, eo⟩ w4 (by omega) (fun b hb => by have := HCT.out b hb; omega) (by have := hb4.size; omega) (row_kept HROW.out.1 (Keeps.of_below (S := fun k => k < A.heap.size) hb4 fun k h _ => h) (fun g hg => (HROW.out.1.lt g hg).2))
      clear HPW hoW hoe hq HSN HCT
      gi_wp2_with (first
        | (refine ⟨trivial, rfl, ?_⟩; refine (HPH.out _).mono ?_; rintro e w3 ⟨rfl, hb⟩
           have HB4 : Hid (Below A.heap.size A (w3.alloc (.cells #[.int .i64 no, .int .i64 eo] 63))) := Lib.hid (hb.alloc hb.size _)
           have k1 := (HB4.out.cell (p := ⟨w.heap.size + 1, 0, none⟩) hAy).trans y1
           have k2 := (HB4.out.cell (p := ⟨Bx, 0, none⟩) (by simp only; omega)).trans x1
           have k3 := (HB4.out.cell (p := ⟨Bx, 1, none⟩) (by simp only; omega)).trans x2
           clear hb))
      refine ⟨trivial, rfl, ?_⟩
      refine (callsIn_wide.2 (HAD.out _ HB4.out)).mono ?_
      rintro e w5 ⟨v', rfl, h1, h2, h3⟩
      obtain ⟨g, cap, rfl, -, -, -, -, -, -⟩ := owns4 h1 (List.length_pos_iff.2 (Ow.more_ne _ _))
      have HE := Lib.hid (fun aa => HFIN.out _ w5 g cap _ HB4.out h2 (by rw [HQ.out]; exact h1) h3 aa)
      have hne2 : some (w.heap.size + 1) ≠ v.ownBlock := fun e => by have := (HROW.out.1.lt _ e.symm).1; omega
      have hb1 : w.heap.size + 1 < (w3.alloc (.cells #[.int .i64 no, .int .i64 eo] 63)).heap.size := Nat.lt_of_lt_of_le hAy HB4.out.size
      have m1 := (h2.cell (p := ⟨w.heap.size + 1, 0, none⟩) hb1 hne2).trans k1
      have m2 := (h2.frozen (p := ⟨w.heap.size + 1, 0, none⟩) hb1 hne2).trans ((HB4.out.frozen (p := ⟨w.heap.size + 1, 0, none⟩) hAy).trans y2)
      clear h1 h2 h3 hne2 hb1 HAD HPH HFIN
      gi_wp2
      exact HE.out _
  case done =>
    rintro O D xs A hD hDs hO - hSx ⟨⟨v, hv, hrow, hown⟩, hpb, hB⟩ hDd
    have b1 := hv.cell
    have hk : Keeps (fun k => k ≠ D) A (A.putObj D (.deferred none)) := (Keeps.refl _ A).putObj (fun h => h rfl) _
    gi_wp2
    refine ⟨by simp, .inl ⟨_, _, rfl, run_takeDeferred hDd, ?_⟩⟩
    refine ⟨_, results_tmp rfl _ _ _, v, xs, rfl, hSx, row_kept hrow hk (fun g hg => ?_), hB.trans (hk.below hB.size fun k hk => by omega)⟩
    have := (hO g (hown g hg)).1
    omega
  case stop =>
    rintro O D c pre A _ _ _ _ h _ _
    exact h.elim
end Go.Proofs.Ytchladbjhodkoaa
