/- The contracts of slices.AppendSeq and slices.Collect over spans, and of spans.Norm. -/
import Derived.Test.YtchladbjhodkoaaSpVar
import Derived.Test.YtchladbjhodkoaaSpNorm
import Derived.Maps.OwnIn
namespace Go.Proofs.Ytchladbjhodkoaa
open Go.RowKit Go.Shelf
attribute [local go_sem] Oper.semAt_some

theorem owns_kept {w w' : World} {base : Nat} {e : TypeId} {size n : Nat} {v : Value} {xs : List Value} {S : Nat → Prop} (h : w.ownsRow base e size v n xs) (hk : Keeps S w w') (hS : ∀ g, v.ownBlock = some g → S g) : w'.ownsRow base e size v n xs := by
  refine ⟨h.1, ?_⟩
  rcases h.2 with hn | ⟨g, cap, cur, rfl, hb, hg, rest⟩
  · exact .inl hn
  · exact .inr ⟨g, cap, cur, rfl, hb, hk.heap hg (hS g rfl), rest⟩

theorem owns_base {w : World} {base base' : Nat} {e : TypeId} {size n : Nat} {v : Value} {xs : List Value} (h : w.ownsRow base e size v n xs) (hb : base' ≤ base) : w.ownsRow base' e size v n xs := by
  refine ⟨h.1, ?_⟩
  rcases h.2 with hn | ⟨g, cap, cur, rfl, hg, rest⟩
  · exact .inl hn
  · exact .inr ⟨g, cap, cur, rfl, by omega, rest⟩

/-- the collector's box and row. -/
def CInv (w : World) (O : Nat → Prop) (pre : List Sp.V) (W : World) : Prop :=
  (∃ v, Boxed W w.heap.size 23 v ∧ W.ownsRow (w.heap.size + 1) 51 2 v pre.length (flat2 (Sp.bare pre)) ∧ (v = .slice none 0 0 ↔ pre = []) ∧ ∀ g, v.ownBlock = some g → O g) ∧ Below w.heap.size w W

theorem collect_end {w w1 A : World} {b : Nat} {O Dt : Nat → Prop} {pre : List Sp.V} {x : Sp.V} {v : Value} {g' cap' : Nat} (hv : Boxed A w.heap.size 23 v) (hrow : A.ownsRow (w.heap.size + 1) 51 2 v pre.length (flat2 (Sp.bare pre))) (hown : ∀ g, v.ownBlock = some g → O g)
    (hB : Below w.heap.size w A) (hO : ∀ k, O k → b + 2 ≤ k ∧ k < A.heap.size) (hDt : ∀ k, Dt k → k < w.heap.size) (hb : b = w.heap.size + 1)
    (h1 : w1.ownsRow (w.heap.size + 1) 51 2 (.slice (some ⟨g', 0, none⟩) (pre.length + 1) cap') (pre.length + 1) (flat2 (Sp.bare pre) ++ [.int .i64 x.1.1, .int .i64 x.1.2])) (hk : Keeps (fun k => some k ≠ v.ownBlock) A w1)
    (hat : (Value.slice (some ⟨g', 0, none⟩) (pre.length + 1) cap').ownBlock = v.ownBlock ∨ (Value.slice (some ⟨g', 0, none⟩) (pre.length + 1) cap').ownBlock = some (A.heap.size + 1)) (aa : Act) :
    ownPostT (RoundS Dt (fun _ => False) b O) O (CInv w) (fun _ _ _ _ => False) (pre ++ [x]) A .normal aa (w1.setCell ⟨w.heap.size, 0, none⟩ (.slice (some ⟨g', 0, none⟩) (pre.length + 1) cap')) := by
  have hg' := h1.lt g' rfl
  have hv1 : Boxed w1 w.heap.size 23 v := hk.heap hv (fun e => by have := (hrow.lt _ e.symm).1; omega)
  refine ⟨?_, fun k => O k ∨ (A.heap.size ≤ k ∧ k < w1.heap.size), ?_, ⟨_, hv1.set _, ?_, by simp, ?_⟩, ?_⟩
  · refine (hk.mono ?_).setCell (.inr ?_) _
    · rintro k hkA h e
      have hg := hrow.lt k e.symm
      rcases h with h | h | h
      · have := hDt k h; omega
      · exact h
      · exact h.2 (hown k e.symm)
    · rintro (h | h | h)
      · have := hDt _ h; simp at this
      · exact h
      · have := h.1; simp at this; omega
  · rintro k (h | h)
    · exact ⟨by simp; exact Nat.lt_of_lt_of_le (hO k h).2 hk.size, .inl h⟩
    · exact ⟨by simp; exact h.2, .inr h.1⟩
  · have h2 : flat2 (Sp.bare (pre ++ [x])) = flat2 (Sp.bare pre) ++ [.int .i64 x.1.1, .int .i64 x.1.2] := by
      rw [show Sp.bare (pre ++ [x]) = Sp.bare pre ++ [x.1] by simp, flat2_snoc]
    rw [h2, List.length_append]
    exact ownsRow_setCell_below h1 (by simp) _
  · intro g hg
    rcases hat with e | e
    · exact .inl (hown g (e ▸ hg))
    · rw [hg] at e
      have e' : g = g' := by have := hg; simp [Value.ownBlock] at this; exact this.symm
      have := Option.some.inj e
      exact .inr ⟨by omega, by omega⟩
  · exact (hB.trans (hk.below hB.size fun k hk' e => by have := (hrow.lt k e.symm).1; omega)).setCell (p := ⟨w.heap.size, 0, none⟩) (Nat.le_refl _) _

set_option maxRecDepth 100000 in
set_option maxHeartbeats 4000000 in
theorem appendSeq_any (gf : Nat) (lb : Array Value) (eg : ∀ args w, (callFunc gf args).run Try.prog w = .ok (.enter gf args) w) (Dt : Nat → Prop) (S : List Sp.V → Prop) (N : Nat) (w0 w : World) (hN : N ≤ 1000000)
    (hseq : SeqT false Try.prog gf lb encS Dt (fun _ => False) S (fun _ => False) N w0) (hw : Below w0.heap.size w0 w) (hDt : ∀ k, Dt k → k < w.heap.size) :
    CallsIn Fence.wide 0 Try.prog 58 #[.slice none 0 0, .func (.func gf) #[] lb] w fun e W' => ∃ v ys, S ys ∧ e = .returned v ∧ W'.ownsRow (w.heap.size + 1) 51 2 v ys.length (flat2 (Sp.bare ys)) ∧ (v = .slice none 0 0 ↔ ys = []) ∧ Below w.heap.size w W' := by
  obtain ⟨i0, hi, hz0, hz1, hz2⟩ := info_parts infoSpan
  refine callsIn_of_wp_marks Try.func58 rfl trivial ?_ rfl
  simp only [Try.ntmps58, List.size_toArray, List.length_cons, List.length_nil, Nat.reduceAdd, Nat.reduceSub, Array.replicate_succ, Array.replicate_zero, List.push_toArray, List.append_toArray, List.nil_append, List.cons_append]
  gi_wp2
  obtain ⟨w2, hw2⟩ : ∃ w2, w.alloc (.cells #[.slice none 0 0] 23) = w2 := ⟨_, rfl⟩
  have hs2 : w2.heap.size = w.heap.size + 1 := by rw [← hw2]; simp
  have hbox0 : Boxed w2 w.heap.size 23 (.slice none 0 0) := by rw [← hw2]; exact Boxed.new w 23 _
  have hBw : Below w.heap.size w w2 := by rw [← hw2]; exact (Below.refl _ w).alloc (Nat.le_refl _) _
  rw [hw2]
  clear hw2
  refine wpIn_rangeT (gf := gf) (lb := lb) rfl eg hseq (hw.trans (hBw.mono hw.size)) (fun k h => by have := hDt k h; omega) (fun k h => h.elim) (fun _ => rfl)
    (CInv w) (fun _ _ _ _ => False) ?hI (fun _ _ _ _ _ h _ => h) (fun _ _ _ _ _ h => h) ⟨⟨_, hbox0, World.ownsRow_nil _ _ _ _, by simp, by simp [Value.ownBlock]⟩, hBw⟩
    (SVar (w2.heap.size + 2) (fun Bx x => { tmps := #[.slice none 0 0, .func (.func gf) #[] lb, .pointer (some ⟨w.heap.size, 0, none⟩), undef, .slice none 0 0, .pointer (some ⟨Bx, 0, none⟩), .func (.func gf) #[] lb, .agg #[.int .i64 x.1.1, .int .i64 x.1.2], undef, undef, undef, undef, undef], defers := [] }))
    (fun O x a' A C h hk => h.later (by omega) hk) ?assign ?body ?done ?stop
  case hI =>
    rintro O s A C ⟨⟨v, h1, h2, h3, h4⟩, h5⟩ hk
    have own : ∀ k, k < w2.heap.size → IterS (fun _ => False) w2.heap.size O k := fun k h => ⟨id, .inl h⟩
    exact ⟨⟨v, hk.heap h1 (own _ (by omega)), owns_kept h2 hk (fun g hg => ⟨id, .inr (h4 g hg)⟩), h3, h4⟩, h5.trans (hk.below h5.size fun k hk' => own k (by omega))⟩
  case assign =>
    intro O pre x A K hO hA ⟨⟨v, h1, h2, h3, h4⟩, h5⟩ hK
    have HK := Lib.hid hK
    clear hK
    unfold encS
    gi_wp2
    exact HK.out _ _ ((Keeps.refl _ _).alloc _) ⟨⟨v, h1.alloc _, h2.alloc _, h3, h4⟩, h5.alloc h5.size _⟩ ⟨A.heap.size, by omega, fun h => by have := (hO _ h).2; omega, World.alloc_heap_new A _, rfl⟩
  case body =>
    rintro O pre x a' A hO hA ⟨r, hr⟩ ⟨⟨v, hv, hrow, hnil, hown⟩, hB⟩ ⟨Bx, hBx, hnO, hcx, rfl⟩ hlen
    have b1 := hv.cell
    obtain ⟨x1, x2, -, -⟩ := cells_two hcx
    have hszB := hB.size
    gi_wp2_with (gi_at_builtin; refine wpListIn_append_own_at _ rfl (.tmp 8) (.tmp 10) 23 rfl (w.heap.size + 1) 51 i0 (.agg #[.int .i64 0, .int .i64 0]) 2 16 Try.underlying23 hi hz0 hz1 hz2 rfl (by decide) _ _ _ rfl (hrow.alloc _) ⟨A.heap.size, 0, none⟩ 1 1 [.int .i64 x.1.1, .int .i64 x.1.2] rfl rfl ?c1 ?c2 ?c3 ?c4 ?c5 ?_)
    case c1 => exact pair_news _ _ rfl _ _ _
    case c2 => intro u hu; simp at hu; rcases hu with rfl | rfl <;> rfl
    case c3 => unfold maxLen; omega
    case c4 => omega
    case c5 => simp; omega
    intro v' w1 hown1 hgrow _ hat
    obtain ⟨g', cap', rfl⟩ := ownsRow_succ hown1
    have hkA : Keeps (fun k => some k ≠ v.ownBlock) A w1 := ((Keeps.refl _ A).alloc _).trans (Keeps.of_grown hgrow fun r e h => h e.symm)
    have hvne : some w.heap.size ≠ v.ownBlock := fun e => by have := (hrow.lt _ e.symm).1; omega
    have hv1 : Boxed w1 w.heap.size 23 v := hkA.heap hv hvne
    have c1 := hv1.cell
    have c2 := hv1.frozen
    have hfin := fun aa => collect_end (x := x) (aa := aa) hv hrow hown hB hO hDt hs2 hown1 hkA hat
    have HF := Lib.hid hfin
    clear hfin hown1 hgrow hat hkA hvne hv1 hrow hnil hown hv
    gi_wp2
    exact HF.out _
  case done =>
    rintro O D xs A hD hDs hO - hSx ⟨⟨v, hv, hrow, hnil, hown⟩, hB⟩ hDd
    have b1 := hv.cell
    have hk : Keeps (fun k => k ≠ D) A (A.putObj D (.deferred none)) := (Keeps.refl _ A).putObj (fun h => h rfl) _
    gi_wp2
    refine ⟨by simp, .inl ⟨_, _, rfl, run_takeDeferred hDd, ?_⟩⟩
    refine ⟨_, results_tmp rfl _ _ _, v, xs, hSx, rfl, owns_kept hrow hk (fun g hg => ?_), hnil, hB.trans (hk.below hB.size fun k hk => by omega)⟩
    have := (hO g (hown g hg)).1
    omega
  case stop =>
    rintro O D c pre A _ _ _ _ h _ _
    exact h.elim

set_option maxHeartbeats 1000000 in
theorem collect_any (gf : Nat) (lb : Array Value) (eg : ∀ args w, (callFunc gf args).run Try.prog w = .ok (.enter gf args) w) (Dt : Nat → Prop) (S : List Sp.V → Prop) (N : Nat) (w0 w : World) (hN : N ≤ 1000000)
    (hseq : SeqT false Try.prog gf lb encS Dt (fun _ => False) S (fun _ => False) N w0) (hw : Below w0.heap.size w0 w) (hDt : ∀ k, Dt k → k < w.heap.size) :
    CallsIn Fence.wide 0 Try.prog 51 #[.func (.func gf) #[] lb] w fun e W' => ∃ v ys, S ys ∧ e = .returned v ∧ W'.ownsRow (w.heap.size + 1) 51 2 v ys.length (flat2 (Sp.bare ys)) ∧ (v = .slice none 0 0 ↔ ys = []) ∧ Below w.heap.size w W' := by
  have hc := appendSeq_any gf lb eg Dt S N w0 w hN hseq hw hDt
  clear hseq hw hDt
  refine callsIn_of_wp Try.func51 rfl trivial ?_ rfl
  simp only [Try.ntmps51, List.size_toArray, List.length_cons, List.length_nil, Nat.reduceAdd, Nat.reduceSub, Array.replicate_succ, Array.replicate_zero, List.push_toArray, List.append_toArray, List.nil_append, List.cons_append]
  gi_wp2_with (refine ⟨trivial, rfl, ?_⟩; refine hc.mono ?_; rintro e w2 ⟨v, ys, hS, rfl, hrow, hnil, hB⟩; have HR := Lib.hid (And.intro hS (And.intro hrow (And.intro hnil hB))); clear hS hrow hnil hB)
  go_ret
  exact ⟨_, ys, HR.out.1, rfl, HR.out.2.1, HR.out.2.2.1, HR.out.2.2.2⟩

/-- a row that the call has laid, as a list of spans. -/
theorem spans_of_row {w : World} {B : Nat} {v : Value} {zs : List Sp.S} (h : w.ownsRow B 51 2 v zs.length (flat2 zs)) (hl : zs.length ≤ 1000000) (hr : ∀ s ∈ zs, -9223372036854775808 ≤ s.1 ∧ s.1 ≤ 9223372036854775807 ∧ -9223372036854775808 ≤ s.2 ∧ s.2 ≤ 9223372036854775807) :
    ∃ a cap, v = .slice a zs.length cap ∧ Spans w a cap zs ∧ (∀ g, v.ownBlock = some g → B ≤ g ∧ g < w.heap.size) := by
  by_cases hz : 0 < zs.length
  · obtain ⟨g, cap, rfl, h1, h2, h3, h4, _⟩ := owns_cells h hz
    refine ⟨_, cap, rfl, ⟨h3, by omega, hr, .inr ⟨g, 0, rfl, h2, fun k hk => ?_⟩⟩, fun g' hg' => by simp [Value.ownBlock] at hg'; subst hg'; exact ⟨h1, h2⟩⟩
    obtain ⟨e1, e2⟩ := h4 k hk
    rw [show zs.getD k (0, 0) = zs[k] by simp [List.getD, hk]]
    exact ⟨e1, e2⟩
  · have hz' : zs = [] := List.eq_nil_of_length_eq_zero (by omega)
    subst hz'
    rcases h.2 with ⟨rfl, _⟩ | ⟨g, cap, cur, rfl, hb, hg, hn, _⟩
    · exact ⟨none, 0, rfl, ⟨Nat.le_refl _, by simp, by simp, .inl rfl⟩, by simp [Value.ownBlock]⟩
    · exact ⟨_, cap, rfl, ⟨by simp, by simp, by simp, .inl rfl⟩, fun g' hg' => by simp [Value.ownBlock] at hg'; subst hg'; exact ⟨hb, (Array.getElem?_eq_some_iff.1 hg).1⟩⟩

theorem bare_ints (ys : List Sp.V) : ∀ s ∈ Sp.bare ys, -9223372036854775808 ≤ s.1 ∧ s.1 ≤ 9223372036854775807 ∧ -9223372036854775808 ≤ s.2 ∧ s.2 ≤ 9223372036854775807 := by
  intro s hs
  obtain ⟨v, _, rfl⟩ := List.mem_map.1 hs
  have := v.2
  omega

set_option maxHeartbeats 1000000 in
/-- spans.Norm. -/
theorem norm_any (a : Option Addr) (cap : Nat) (l : List Sp.S) (w : World) (hl : l.length ≤ 100000) (hS : Spans w a cap l) :
    CallsIn Fence.wide 0 Try.prog 41 #[.slice a l.length cap] w fun e W' => ∃ a' cap', e = .returned (.slice a' (Sp.mixS 0 l []).length cap') ∧ Spans W' a' cap' (Sp.mixS 0 l []) ∧ Below w.heap.size w W' := by
  have hr := runs_any a cap l w (by omega) hS
  clear hS
  refine callsIn_of_wp Try.func41 rfl trivial ?_ rfl
  simp only [Try.ntmps41, List.size_toArray, List.length_cons, List.length_nil, Nat.reduceAdd, Nat.reduceSub, Array.replicate_succ, Array.replicate_zero, List.push_toArray, List.append_toArray, List.nil_append, List.cons_append]
  gi_wp2_with (refine ⟨trivial, rfl, ?_⟩; refine hr.mono ?_; rintro e w2 ⟨v, rfl, Bp, rfl, hB2, hseq⟩; have HB2 := Lib.hid hB2; have HSQ := Lib.hid hseq; clear hB2 hseq)
  have hc := collect_any 73 #[.pointer (some ⟨Bp, 0, none⟩)] (enters_of Try.func73 (by kernel_rfl) rfl) (fun k => w.heap.size ≤ k ∧ k < w2.heap.size) _ l.length w2 w2 (by omega)
    (HSQ.out (fun k => w.heap.size ≤ k ∧ k < w2.heap.size) (fun _ => False) (fun k h1 h2 => ⟨h1, h2⟩) (fun k h => h.2) (fun k h => h.elim)) (Below.refl _ _) (fun k h => h.2)
  gi_wp2_with (refine ⟨trivial, rfl, ?_⟩; refine hc.mono ?_; rintro e w3 ⟨v, ys, hS, rfl, hrow, hnil, hB⟩; have HR := Lib.hid (And.intro hS (And.intro hrow hB)); clear hS hrow hnil hB)
  go_ret
  obtain ⟨hS, hrow, hB⟩ := HR.out
  have hlen : ys.length = (Sp.bare ys).length := by simp
  have hm : (Sp.bare ys).length ≤ 300000 := by rw [hS]; exact mixS_len 0 l [] (by simpa using hl)
  rw [hlen] at hrow
  obtain ⟨a', cap', rfl, hsp, -⟩ := spans_of_row hrow (by omega) (bare_ints ys)
  rw [hS] at hsp ⊢
  exact ⟨a', cap', rfl, hsp, HB2.out.trans (hB.mono HB2.out.size)⟩

theorem row_cap {w : World} {B n : Nat} {e : TypeId} {sz : Nat} {v : Value} {xs : List Value} (h : w.ownsRow B e sz v n xs) : ∀ a m c, v = .slice a m c → c ≤ 9223372036854775807 := by
  intro a m c hv
  rcases h.2 with ⟨rfl, _⟩ | ⟨g, cap, cur, rfl, _, _, _, hc, _⟩
  · cases hv; omega
  · cases hv; exact hc

set_option maxHeartbeats 1000000 in
/-- spans.Norm, and where its list lies. -/
theorem norm_own (a : Option Addr) (cap : Nat) (l : List Sp.S) (w : World) (hl : l.length ≤ 100000) (hS : Spans w a cap l) :
    Calls Try.prog 41 #[.slice a l.length cap] w fun e W' => ∃ a' cap', e = .returned (.slice a' (Sp.mixS 0 l []).length cap') ∧ Spans W' a' cap' (Sp.mixS 0 l []) ∧ (∀ x, a' = some x → w.heap.size ≤ x.block ∧ x.block < W'.heap.size) ∧ cap' ≤ 9223372036854775807 ∧ Below w.heap.size w W' := by
  refine (callsIn_wide (n := 0)).1 ?_
  have hr := runs_any a cap l w (by omega) hS
  clear hS
  refine callsIn_of_wp Try.func41 rfl trivial ?_ rfl
  simp only [Try.ntmps41, List.size_toArray, List.length_cons, List.length_nil, Nat.reduceAdd, Nat.reduceSub, Array.replicate_succ, Array.replicate_zero, List.push_toArray, List.append_toArray, List.nil_append, List.cons_append]
  gi_wp2_with (refine ⟨trivial, rfl, ?_⟩; refine hr.mono ?_; rintro e w2 ⟨v, rfl, Bp, rfl, hB2, hseq⟩; have HB2 := Lib.hid hB2; have HSQ := Lib.hid hseq; clear hB2 hseq)
  have hc := collect_any 73 #[.pointer (some ⟨Bp, 0, none⟩)] (enters_of Try.func73 (by kernel_rfl) rfl) (fun k => w.heap.size ≤ k ∧ k < w2.heap.size) _ l.length w2 w2 (by omega)
    (HSQ.out (fun k => w.heap.size ≤ k ∧ k < w2.heap.size) (fun _ => False) (fun k h1 h2 => ⟨h1, h2⟩) (fun k h => h.2) (fun k h => h.elim)) (Below.refl _ _) (fun k h => h.2)
  gi_wp2_with (refine ⟨trivial, rfl, ?_⟩; refine hc.mono ?_; rintro e w3 ⟨v, ys, hS, rfl, hrow, hnil, hB⟩; have HR := Lib.hid (And.intro hS (And.intro hrow hB)); clear hS hrow hnil hB)
  go_ret
  obtain ⟨hS, hrow, hB⟩ := HR.out
  have hlen : ys.length = (Sp.bare ys).length := by simp
  have hm : (Sp.bare ys).length ≤ 300000 := by rw [hS]; exact mixS_len 0 l [] (by simpa using hl)
  rw [hlen] at hrow
  have hcap := row_cap hrow
  obtain ⟨a', cap', rfl, hsp, hbl⟩ := spans_of_row hrow (by omega) (bare_ints ys)
  have hsz := HB2.out.size
  rw [hS] at hsp ⊢
  refine ⟨a', cap', rfl, hsp, fun x hx => ?_, hcap _ _ _ rfl, HB2.out.trans (hB.mono HB2.out.size)⟩
  subst hx
  have := hbl x.block rfl
  omega

end Go.Proofs.Ytchladbjhodkoaa
