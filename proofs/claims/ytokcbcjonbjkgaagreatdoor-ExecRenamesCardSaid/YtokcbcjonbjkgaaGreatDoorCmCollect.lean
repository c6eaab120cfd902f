/- The contracts of slices.AppendSeq and slices.Collect over words. -/
import Derived.Test.YtokcbcjonbjkgaaGreatDoorCmBase
import Derived.Maps.OwnIn
namespace Go.Proofs.YtokcbcjonbjkgaaGreatDoor
open Go.RowKit Go.Shelf
attribute [local go_sem] Oper.semAt_some

/-- the collector's box (in block Bb, of type T) and row. -/
def cmWInv (w : World) (Bb : Nat) (f : List (List UInt8) → List (List UInt8)) (O : Nat → Prop) (pre : List (List UInt8)) (W : World) : Prop :=
  (∃ v, Boxed W Bb 31 v ∧ W.ownsRow (w.heap.size + 1) 9 1 v pre.length (wcells (f pre)) ∧ (v = .slice none 0 0 ↔ pre = []) ∧ ∀ g, v.ownBlock = some g → O g) ∧ Below w.heap.size w W

/-- a word more in the box's row. -/
theorem cmCollect_end {w w1 A : World} {b Bb n : Nat} {O Dt : Nat → Prop} {x : List UInt8} {v : Value} {g' cap' : Nat} {cs : List Value} (hv : Boxed A Bb 31 v) (hrow : A.ownsRow (w.heap.size + 1) 9 1 v n cs) (hown : ∀ g, v.ownBlock = some g → O g)
    (hB : Below w.heap.size w A) (hO : ∀ k, O k → b + 2 ≤ k ∧ k < A.heap.size) (hDt : ∀ k, Dt k → k < w.heap.size) (hb : w.heap.size < b) (hBb : Bb = w.heap.size)
    (h1 : w1.ownsRow (w.heap.size + 1) 9 1 (.slice (some ⟨g', 0, none⟩) (n + 1) cap') (n + 1) (cs ++ [.string ⟨x.toArray⟩])) (hk : Keeps (fun k => some k ≠ v.ownBlock) A w1)
    (hat : (Value.slice (some ⟨g', 0, none⟩) (n + 1) cap').ownBlock = v.ownBlock ∨ (Value.slice (some ⟨g', 0, none⟩) (n + 1) cap').ownBlock = some (A.heap.size + 1)) :
    Keeps (RoundS Dt (fun _ => False) b O) A (w1.setCell ⟨Bb, 0, none⟩ (.slice (some ⟨g', 0, none⟩) (n + 1) cap')) ∧ ∃ O', Grows O O' A (w1.setCell ⟨Bb, 0, none⟩ (.slice (some ⟨g', 0, none⟩) (n + 1) cap')) ∧
      (∃ v', Boxed (w1.setCell ⟨Bb, 0, none⟩ (.slice (some ⟨g', 0, none⟩) (n + 1) cap')) Bb 31 v' ∧ (w1.setCell ⟨Bb, 0, none⟩ (.slice (some ⟨g', 0, none⟩) (n + 1) cap')).ownsRow (w.heap.size + 1) 9 1 v' (n + 1) (cs ++ [.string ⟨x.toArray⟩]) ∧ v' ≠ .slice none 0 0 ∧ ∀ g, v'.ownBlock = some g → O' g) ∧
        Below w.heap.size w (w1.setCell ⟨Bb, 0, none⟩ (.slice (some ⟨g', 0, none⟩) (n + 1) cap')) := by
  subst hBb
  have hg' := h1.lt g' rfl
  have hv1 : Boxed w1 w.heap.size 31 v := hk.heap hv (fun e => by have := (hrow.lt _ e.symm).1; omega)
  refine ⟨?_, fun k => O k ∨ (A.heap.size ≤ k ∧ k < w1.heap.size), ?_, ⟨_, hv1.set _, ?_, by simp, ?_⟩, ?_⟩
  · refine (hk.mono ?_).setCell (.inr ?_) _
    · rintro k hkA h e
      have hg := hrow.lt k e.symm
      rcases h with h | h | h
      · have := hDt k h; omega
      · exact h
      · exact h.2 (hown k e.symm)
    · rintro (h | h | h)
      · have := hDt _ h; simp at this
      · exact h
      · have := h.1; simp at this; omega
  · rintro k (h | h)
    · exact ⟨by simp; exact Nat.lt_of_lt_of_le (hO k h).2 hk.size, .inl h⟩
    · exact ⟨by simp; exact h.2, .inr h.1⟩
  · exact ownsRow_setCell_below h1 (by simp) _
  · intro g hg
    rcases hat with e | e
    · exact .inl (hown g (e ▸ hg))
    · rw [hg] at e
      have e' : g = g' := by have := hg; simp [Value.ownBlock] at this; exact this.symm
      have := Option.some.inj e
      exact .inr ⟨by omega, by omega⟩
  · exact (hB.trans (hk.below hB.size fun k hk' e => by have := (hrow.lt k e.symm).1; omega)).setCell (p := ⟨w.heap.size, 0, none⟩) (Nat.le_refl _) _

set_option maxRecDepth 100000 in
set_option maxHeartbeats 4000000 in
theorem cmAppendSeq_any (gf : Nat) (lb : Array Value) (eg : ∀ args w, (callFunc gf args).run Tryz.prog w = .ok (.enter gf args) w) (st : Bool) (Dt : Nat → Prop) (S Sp : List (List UInt8) → Prop) (N : Nat) (w0 w : World) (hN : N ≤ 1000000)
    (hseq : SeqT st Tryz.prog gf lb encW Dt (fun _ => False) S Sp N w0) (hw : Below w0.heap.size w0 w) (hDt : ∀ k, Dt k → k < w.heap.size) :
    CallsIn Fence.wide 0 Tryz.prog 56 #[.slice none 0 0, .func (.func gf) #[] lb] w fun e W' => ∃ v ys, S ys ∧ e = .returned v ∧ W'.ownsRow (w.heap.size + 1) 9 1 v ys.length (wcells ys) ∧ (v = .slice none 0 0 ↔ ys = []) ∧ Below w.heap.size w W' := by
  obtain ⟨i0, hi, hz0, hz1, hz2⟩ := info_parts info9
  refine callsIn_of_wp_marks Tryz.func56 rfl trivial ?_ rfl
  simp only [Tryz.ntmps56, List.size_toArray, List.length_cons, List.length_nil, Nat.reduceAdd, Nat.reduceSub, Array.replicate_succ, Array.replicate_zero, List.push_toArray, List.append_toArray, List.nil_append, List.cons_append]
  gi_wp2
  obtain ⟨w2, hw2⟩ : ∃ w2, w.alloc (.cells #[.slice none 0 0] 31) = w2 := ⟨_, rfl⟩
  have hs2 : w2.heap.size = w.heap.size + 1 := by rw [← hw2]; simp
  have hbox0 : Boxed w2 w.heap.size 31 (.slice none 0 0) := by rw [← hw2]; exact Boxed.new w 31 _
  have hBw : Below w.heap.size w w2 := by rw [← hw2]; exact (Below.refl _ w).alloc (Nat.le_refl _) _
  rw [hw2]
  clear hw2
  refine wpIn_rangeT (gf := gf) (lb := lb) rfl eg hseq (hw.trans (hBw.mono hw.size)) (fun k h => by have := hDt k h; omega) (fun k h => h.elim) (fun _ => rfl)
    (cmWInv w w.heap.size id) (fun _ _ _ _ => False) ?hI (fun _ _ _ _ _ h _ => h) (fun _ _ _ _ _ h => h) ⟨⟨_, hbox0, World.ownsRow_nil _ _ _ _, by simp, by simp [Value.ownBlock]⟩, hBw⟩
    (fun _ x a' _ => a' = { tmps := #[.slice none 0 0, .func (.func gf) #[] lb, .pointer (some ⟨w.heap.size, 0, none⟩), undef, .slice none 0 0, .string ⟨x.toArray⟩, .func (.func gf) #[] lb, .string ⟨x.toArray⟩, undef, undef, undef, undef, undef], defers := [] })
    (fun O x a' A C h hk => h) ?assign ?body ?done ?stop
  case hI =>
    rintro O s A C ⟨⟨v, h1, h2, h3, h4⟩, h5⟩ hk
    have own : ∀ k, k < w2.heap.size → IterS (fun _ => False) w2.heap.size O k := fun k h => ⟨id, .inl h⟩
    exact ⟨⟨v, hk.heap h1 (own _ (by omega)), owns_kept h2 hk (fun g hg => ⟨id, .inr (h4 g hg)⟩), h3, h4⟩, h5.trans (hk.below h5.size fun k hk' => own k (by omega))⟩
  case assign =>
    intro O pre x A K hO hA hi hK
    have HK := Lib.hid hK
    have HI := Lib.hid hi
    clear hK hi
    unfold encW
    gi_wp2
    exact HK.out _ _ (Keeps.refl _ _) HI.out rfl
  case body =>
    rintro O pre x a' A hO hA ⟨r, hr⟩ ⟨⟨v, hv, hrow, hnil, hown⟩, hB⟩ rfl hlen
    have b1 := hv.cell
    have hszB := hB.size
    have hrow' : A.ownsRow (w.heap.size + 1) 9 1 v pre.length (wcells pre) := hrow
    gi_wp2_with (gi_at_builtin; refine wpListIn_append_own_at _ rfl (.tmp 8) (.tmp 10) 31 rfl (w.heap.size + 1) 9 i0 (.string ⟨#[]⟩) 1 16 Tryz.underlying31 hi hz0 hz1 hz2 rfl (by decide) _ _ _ rfl (hrow'.alloc _) ⟨A.heap.size, 0, none⟩ 1 1 [.string ⟨x.toArray⟩] rfl rfl ?c1 ?c2 ?c3 ?c4 ?c5 ?_)
    case c1 => exact one_news _ _ rfl _ _
    case c2 => intro u hu; simp at hu; subst hu; rfl
    case c3 => unfold maxLen; omega
    case c4 => omega
    case c5 => simp; omega
    intro v' w1 hown1 hgrow _ hat
    obtain ⟨g', cap', rfl⟩ := ownsRow_succ hown1
    have hkA : Keeps (fun k => some k ≠ v.ownBlock) A w1 := ((Keeps.refl _ A).alloc _).trans (Keeps.of_grown hgrow fun r e h => h e.symm)
    have hvne : some w.heap.size ≠ v.ownBlock := fun e => by have := (hrow.lt _ e.symm).1; omega
    have hv1 : Boxed w1 w.heap.size 31 v := hkA.heap hv hvne
    have c1 := hv1.cell
    have c2 := hv1.frozen
    have hfin := cmCollect_end (x := x) (b := w2.heap.size) hv hrow' hown hB hO hDt (by omega) rfl hown1 hkA hat
    have hfin' : ∀ aa, ownPostT (RoundS Dt (fun _ => False) w2.heap.size O) O (cmWInv w w.heap.size id) (fun _ _ _ _ => False) (pre ++ [x]) A .normal aa (w1.setCell ⟨w.heap.size, 0, none⟩ (.slice (some ⟨g', 0, none⟩) (pre.length + 1) cap')) := by
      intro aa
      obtain ⟨g1, O', g2, ⟨v', g3, g4, g5, g6⟩, g7⟩ := hfin
      exact ⟨g1, O', g2, ⟨v', g3, by simpa [wcells] using g4, by simp [g5], g6⟩, g7⟩
    have HF := Lib.hid hfin'
    clear hfin hfin' hown1 hgrow hat hkA hvne hv1 hrow hrow' hnil hown hv
    gi_wp2
    exact HF.out _
  case done =>
    rintro O D xs A hD hDs hO - hSx ⟨⟨v, hv, hrow, hnil, hown⟩, hB⟩ hDd
    have b1 := hv.cell
    have hk : Keeps (fun k => k ≠ D) A (A.putObj D (.deferred none)) := (Keeps.refl _ A).putObj (fun h => h rfl) _
    gi_wp2
    refine ⟨by simp, .inl ⟨_, _, rfl, run_takeDeferred hDd, ?_⟩⟩
    refine ⟨_, results_tmp rfl _ _ _, v, xs, hSx, rfl, owns_kept hrow hk (fun g hg => ?_), hnil, hB.trans (hk.below hB.size fun k hk => by omega)⟩
    have := (hO g (hown g hg)).1
    omega
  case stop =>
    rintro O D c pre A _ _ _ _ _ h _
    exact h.elim

set_option maxHeartbeats 1000000 in
theorem cmCollect_any (gf : Nat) (lb : Array Value) (eg : ∀ args w, (callFunc gf args).run Tryz.prog w = .ok (.enter gf args) w) (st : Bool) (Dt : Nat → Prop) (S Sp : List (List UInt8) → Prop) (N : Nat) (w0 w : World) (hN : N ≤ 1000000)
    (hseq : SeqT st Tryz.prog gf lb encW Dt (fun _ => False) S Sp N w0) (hw : Below w0.heap.size w0 w) (hDt : ∀ k, Dt k → k < w.heap.size) :
    CallsIn Fence.wide 0 Tryz.prog 41 #[.func (.func gf) #[] lb] w fun e W' => ∃ v ys, S ys ∧ e = .returned v ∧ W'.ownsRow (w.heap.size + 1) 9 1 v ys.length (wcells ys) ∧ (v = .slice none 0 0 ↔ ys = []) ∧ Below w.heap.size w W' := by
  have hc := cmAppendSeq_any gf lb eg st Dt S Sp N w0 w hN hseq hw hDt
  clear hseq hw hDt
  refine callsIn_of_wp Tryz.func41 rfl trivial ?_ rfl
  simp only [Tryz.ntmps41, List.size_toArray, List.length_cons, List.length_nil, Nat.reduceAdd, Nat.reduceSub, Array.replicate_succ, Array.replicate_zero, List.push_toArray, List.append_toArray, List.nil_append, List.cons_append]
  gi_wp2_with (refine ⟨trivial, rfl, ?_⟩; refine hc.mono ?_; rintro e w2 ⟨v, ys, hS, rfl, hrow, hnil, hB⟩; have HR := Lib.hid (And.intro hS (And.intro hrow (And.intro hnil hB))); clear hS hrow hnil hB)
  go_ret
  exact ⟨_, ys, HR.out.1, rfl, HR.out.2.1, HR.out.2.2.1, HR.out.2.2.2⟩

end Go.Proofs.YtokcbcjonbjkgaaGreatDoor
