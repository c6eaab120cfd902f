/- The contract of spans.Read. -/
import Derived.Test.YtlbmkgnfbkimaaaDoorReadSpan
import Derived.Test.YtlbmkgnfbkimaaaDoorSplit
import Derived.Test.YtlbmkgnfbkimaaaDoorDevTextWalk
namespace Go.Proofs.YtlbmkgnfbkimaaaDoor
open Go.RowKit Go.Shelf
attribute [local go_sem] Oper.semAt_some

/-- what spans.Read makes of a text. -/
def readD (bs : List UInt8) : Option (List Sp.S) := if bs = [] then some [] else Rs.pieces (splitL 44 bs)

/-- what spans.Read hands back. -/
def ReadOut (w : World) (o : Option (List Sp.S)) (e : Ending) (W' : World) : Prop :=
  ∃ v, e = .returned (.tuple #[v, .bool o.isSome]) ∧ W'.ownsRow (w.heap.size + 6) 39 2 v (o.getD []).length (flat2 (o.getD [])) ∧ Below w.heap.size w W'

/-- between two pieces: the list so far in a row of the call's own; the results' cells. -/
def RInv (w : World) (O : Nat → Prop) (pre : List T) (W : World) : Prop :=
  (∃ v l, Boxed W (w.heap.size + 1 + 1) 22 v ∧ W.ownsRow (w.heap.size + 6) 39 2 v l.length (flat2 l) ∧ (∀ g, v.ownBlock = some g → O g) ∧ Rs.pieces (pre.map (·.1)) = some l ∧ l.length ≤ pre.length) ∧
  Boxed W w.heap.size 22 (.slice none 0 0) ∧ Boxed W (w.heap.size + 1) 4 (.bool false) ∧ Below w.heap.size w W

/-- a round has come to a piece that is none. -/
def RBad (w : World) (c : Code) (_ : Nat → Prop) (pre : List T) (W : World) : Prop :=
  c = .ret ∧ Rs.pieces (pre.map (·.1)) = none ∧ Boxed W w.heap.size 22 (.slice none 0 0) ∧ Boxed W (w.heap.size + 1) 4 (.bool false) ∧ Below w.heap.size w W

theorem pieces_range {xs : List (List UInt8)} {l : List Sp.S} (h : Rs.pieces xs = some l) : ∀ t ∈ l, 0 ≤ t.1 ∧ t.1 < 16384 ∧ 0 ≤ t.2 ∧ t.2 < 16384 := fun t ht => by
  have := (Rs.pieces_valid h ⟨by simp, by simp⟩).1 t ht
  omega

theorem row_end {w A w1 : World} {b : Nat} {O Dt Pv : Nat → Prop} {pre : List T} {x : T} {l : List Sp.S} {s : Sp.S} {v : Value} {g' cap' : Nat} {A0 : World}
    (hv : Boxed A (w.heap.size + 1 + 1) 22 v) (hrow : A.ownsRow (w.heap.size + 6) 39 2 v l.length (flat2 l)) (hown : ∀ g, v.ownBlock = some g → O g) (hp : Rs.pieces ((pre ++ [x]).map (·.1)) = some (l ++ [s])) (hll : l.length ≤ pre.length)
    (hr1 : Boxed A w.heap.size 22 (.slice none 0 0)) (hr2 : Boxed A (w.heap.size + 1) 4 (.bool false)) (hB : Below w.heap.size w A) (hA0 : A0.heap.size ≤ A.heap.size) (hKA : Keeps (RoundS Dt Pv b O) A0 A)
    (hO : ∀ k, O k → b + 2 ≤ k ∧ k < A0.heap.size) (hb : b = w.heap.size + 6) (hDt : ∀ k, Dt k → w.heap.size + 1 + 1 < k ∧ k < b) (hPv : ∀ k, Pv k → w.heap.size + 1 + 1 < k ∧ k < b)
    (h1 : w1.ownsRow (w.heap.size + 6) 39 2 (.slice (some ⟨g', 0, none⟩) (l.length + 1) cap') (l.length + 1) (flat2 l ++ [.int .i64 s.1, .int .i64 s.2])) (hk : Keeps (fun k => some k ≠ v.ownBlock) A w1)
    (hat : (Value.slice (some ⟨g', 0, none⟩) (l.length + 1) cap').ownBlock = v.ownBlock ∨ (Value.slice (some ⟨g', 0, none⟩) (l.length + 1) cap').ownBlock = some (A.heap.size + 1)) (aa : Act) :
    ownPostT (RoundS Dt Pv b O) O (RInv w) (RBad w) (pre ++ [x]) A0 .normal aa (w1.setCell ⟨w.heap.size + 1 + 1, 0, none⟩ (.slice (some ⟨g', 0, none⟩) (l.length + 1) cap')) := by
  have hg' := h1.lt g' rfl
  have nown : ∀ k, k < w.heap.size + 6 → some k ≠ v.ownBlock := fun k h e => by have := (hrow.lt k e.symm).1; omega
  have hv1 : Boxed w1 (w.heap.size + 1 + 1) 22 v := hk.heap hv (nown _ (by omega))
  have hset : Keeps (fun k => k ≠ w.heap.size + 1 + 1) w1 (w1.setCell ⟨w.heap.size + 1 + 1, 0, none⟩ (.slice (some ⟨g', 0, none⟩) (l.length + 1) cap')) := (Keeps.refl _ _).setCell (.inr (by simp)) _
  refine ⟨?_, fun k => O k ∨ (A0.heap.size ≤ k ∧ k < w1.heap.size), ?_, ⟨_, l ++ [s], hv1.set _, ?_, ?_, hp, by simp; omega⟩, hset.heap (hk.heap hr1 (nown _ (by omega))) (by omega), hset.heap (hk.heap hr2 (nown _ (by omega))) (by omega), ?_⟩
  · refine (hKA.trans (hk.mono ?_)).setCell (.inr ?_) _
    · rintro k hkA h e
      have hg := hrow.lt k e.symm
      rcases h with h | h | h
      · have := hDt k h; omega
      · have := hPv k h; omega
      · exact h.2 (hown k e.symm)
    · rintro (h | h | h)
      · have := hDt _ h; simp at this
      · have := hPv _ h; simp at this
      · have := h.1; simp at this; omega
  · rintro k (h | h)
    · exact ⟨by simp; exact Nat.lt_of_lt_of_le (hO k h).2 (Nat.le_trans hA0 hk.size), .inl h⟩
    · exact ⟨by simp; exact h.2, .inr h.1⟩
  · rw [flat2_snoc, List.length_append]
    exact owns_kept h1 hset (fun g hg => by have := (h1.lt g hg).1; omega)
  · intro g hg
    rcases hat with e | e
    · exact .inl (hown g (e ▸ hg))
    · rw [hg] at e
      have e' : g = g' := by have := hg; simp [Value.ownBlock] at this; exact this.symm
      have := Option.some.inj e
      exact .inr ⟨by omega, by omega⟩
  · exact ((hB.trans (hk.below hB.size fun k hk' => nown k (by omega)))).setCell (p := ⟨w.heap.size + 1 + 1, 0, none⟩) (by simp; omega) _

theorem boxed_two {W : World} {B t1 t2 : Nat} {x y : Value} (h1 : Boxed W B t1 x) (h2 : Boxed W (B + 1) t2 y) (u v : Value) : Boxed ((W.setCell ⟨B, 0, none⟩ u).setCell ⟨B + 1, 0, none⟩ v) B t1 u ∧ Boxed ((W.setCell ⟨B, 0, none⟩ u).setCell ⟨B + 1, 0, none⟩ v) (B + 1) t2 v := by
  refine ⟨?_, ?_⟩
  · exact ((Keeps.refl (fun k => k = B) (W.setCell ⟨B, 0, none⟩ u)).setCell (p := ⟨B + 1, 0, none⟩) (.inr (by simp)) v).heap (h1.set u) rfl
  · have h3 : Boxed (W.setCell ⟨B, 0, none⟩ u) (B + 1) t2 y := ((Keeps.refl (fun k => k = B + 1) W).setCell (p := ⟨B, 0, none⟩) (.inr (by simp)) u).heap h2 rfl
    exact h3.set v

theorem bad_end {w A W' : World} {b : Nat} {O Dt Pv : Nat → Prop} {xs : List T} (hk : Keeps (fun k => k ≠ w.heap.size ∧ k ≠ w.heap.size + 1) A W') (h1 : Boxed W' w.heap.size 22 (.slice none 0 0)) (h2 : Boxed W' (w.heap.size + 1) 4 (.bool false))
    (hB : Below w.heap.size w A) (hO : ∀ k, O k → b + 2 ≤ k ∧ k < A.heap.size) (hb : b = w.heap.size + 6) (hDt : ∀ k, Dt k → w.heap.size + 1 + 1 < k ∧ k < b) (hPv : ∀ k, Pv k → w.heap.size + 1 + 1 < k ∧ k < b) (hbad : Rs.pieces (xs.map (·.1)) = none) (aa : Act) :
    ownPostT (RoundS Dt Pv b O) O (RInv w) (RBad w) xs A .ret aa W' := by
  refine ⟨hk.mono ?_, O, Grows.same (fun k hk' => Nat.lt_of_lt_of_le (hO k hk').2 hk.size), rfl, hbad, h1, h2, hB.trans (hk.below hB.size fun k hk' => ⟨by omega, by omega⟩)⟩
  rintro k _ (h | h | h)
  · have := hDt k h; omega
  · have := hPv k h; omega
  · omega

set_option maxRecDepth 100000 in
set_option maxHeartbeats 4000000 in
theorem read_some (s : ByteArray) (w : World) (hs : s.size ≤ 100000) (h0 : s.data.toList ≠ []) :
    CallsIn Fence.wide 0 Tryd.prog 26 #[.string s] w (ReadOut w (readD s.data.toList)) := by
  have hse : s.toList.isEmpty = false := by
    rw [Lib.toList_data]
    cases h : s.data.toList with
    | nil => exact absurd h h0
    | cons x r => rfl
  have HRD : Hid (readD s.data.toList = Rs.pieces (splitL 44 s.data.toList)) := Lib.hid (if_neg h0)
  clear h0
  obtain ⟨i0, hi, hz0, hz1, hz2⟩ := info_parts info39
  refine callsIn_of_wp_marks Tryd.func26 rfl trivial ?_ rfl
  simp only [Tryd.ntmps26, List.size_toArray, List.length_cons, List.length_nil, Nat.reduceAdd, Nat.reduceSub, Array.replicate_succ, Array.replicate_zero, List.push_toArray, List.append_toArray, List.nil_append, List.cons_append]
  gi_wp2_with (refine ⟨trivial, rfl, ?_⟩; refine (splitSeq_any _ _ _).mono ?_; rintro e w2 ⟨rfl, rfl⟩)
  obtain ⟨w2, hw2⟩ : ∃ w2, ((((((w.alloc (.cells #[.slice none 0 0] 22)).alloc (.cells #[.bool false] 4)).alloc (.cells #[.slice none 0 0] 22)).alloc (.cells #[.string s] 9)).alloc (.cells #[.string ⟨#[44]⟩] 9)).alloc (.cells #[.int .i64 0] 3)) = w2 := ⟨_, rfl⟩
  have hs2 : w2.heap.size = w.heap.size + 1 + 1 + 1 + 1 + 1 + 1 := by rw [← hw2]; simp
  have e0 : Boxed w2 w.heap.size 22 (.slice none 0 0) := by
    rw [← hw2]; exact (((((Boxed.new w 22 (.slice none 0 0)).alloc _).alloc _).alloc _).alloc _).alloc _
  have e1 : Boxed w2 (w.heap.size + 1) 4 (.bool false) := by
    have h := Boxed.new (w.alloc (.cells #[.slice none 0 0] 22)) 4 (.bool false)
    rw [World.size_alloc] at h
    rw [← hw2]; exact (((h.alloc _).alloc _).alloc _).alloc _
  have e2 : Boxed w2 (w.heap.size + 1 + 1) 22 (.slice none 0 0) := by
    have h := Boxed.new ((w.alloc (.cells #[.slice none 0 0] 22)).alloc (.cells #[.bool false] 4)) 22 (.slice none 0 0)
    rw [World.size_alloc, World.size_alloc] at h
    rw [← hw2]; exact ((h.alloc _).alloc _).alloc _
  have e3 : Boxed w2 (w.heap.size + 1 + 1 + 1) 9 (.string s) := by
    have h := Boxed.new (((w.alloc (.cells #[.slice none 0 0] 22)).alloc (.cells #[.bool false] 4)).alloc (.cells #[.slice none 0 0] 22)) 9 (.string s)
    rw [World.size_alloc, World.size_alloc, World.size_alloc] at h
    rw [← hw2]; exact (h.alloc _).alloc _
  have e4 : Boxed w2 (w.heap.size + 1 + 1 + 1 + 1) 9 (.string ⟨#[44]⟩) := by
    have h := Boxed.new ((((w.alloc (.cells #[.slice none 0 0] 22)).alloc (.cells #[.bool false] 4)).alloc (.cells #[.slice none 0 0] 22)).alloc (.cells #[.string s] 9)) 9 (.string ⟨#[44]⟩)
    rw [World.size_alloc, World.size_alloc, World.size_alloc, World.size_alloc] at h
    rw [← hw2]; exact h.alloc _
  have e5 : Boxed w2 (w.heap.size + 1 + 1 + 1 + 1 + 1) 3 (.int .i64 0) := by
    have h := Boxed.new (((((w.alloc (.cells #[.slice none 0 0] 22)).alloc (.cells #[.bool false] 4)).alloc (.cells #[.slice none 0 0] 22)).alloc (.cells #[.string s] 9)).alloc (.cells #[.string ⟨#[44]⟩] 9)) 3 (.int .i64 0)
    rw [World.size_alloc, World.size_alloc, World.size_alloc, World.size_alloc, World.size_alloc] at h
    rw [← hw2]; exact h
  have hBw : Below w.heap.size w w2 := by
    rw [← hw2]
    exact (((((((Keeps.refl (fun k => k < w.heap.size) w).alloc _).alloc _).alloc _).alloc _).alloc _).alloc _).below (Nat.le_refl _) fun _ h => h
  rw [hw2]
  clear hw2
  have hDt : ∀ k, (fun k => w.heap.size + 1 + 1 + 1 < k ∧ k < w2.heap.size) k → w.heap.size + 1 + 1 < k ∧ k < w2.heap.size := fun k h => ⟨by omega, h.2⟩
  have hPv : ∀ k, (fun k => k = w.heap.size + 1 + 1 + 1) k → w.heap.size + 1 + 1 < k ∧ k < w2.heap.size := fun k h => by simp only at h; omega
  have hseq := split_seq (w.heap.size + 1 + 1 + 1) (w.heap.size + 1 + 1 + 1 + 1) (w.heap.size + 1 + 1 + 1 + 1 + 1) s 44 w2 (by omega) ⟨by omega, by omega⟩ (by omega) (by omega) (by omega) e3 e4 e5
    (fun k => w.heap.size + 1 + 1 + 1 < k ∧ k < w2.heap.size) (fun k => k = w.heap.size + 1 + 1 + 1) ⟨by omega, by omega⟩ ⟨by omega, by omega⟩ rfl
  refine wpIn_rangeT (gf := 70) rfl (enters_of Tryd.func70 (by kernel_rfl) rfl)
    hseq (Below.refl _ _) (fun k h => h.2) (fun k h => by subst h; omega) (fun _ => rfl)
    (RInv w) (RBad w) ?hI ?hIx (fun h => by cases h) ⟨⟨_, [], e2, World.ownsRow_nil _ _ _ _, by simp [Value.ownBlock], rfl, Nat.le_refl _⟩, e0, e1, hBw⟩
    (fun _ x a' _ => a' = { tmps := #[.string s, undef, .pointer (some ⟨w.heap.size, 0, none⟩), .pointer (some ⟨w.heap.size + 1, 0, none⟩), .pointer (some ⟨w.heap.size + 1 + 1, 0, none⟩), .string ⟨x.1.toArray⟩, undef, undef, .string s, .bool false, .string s, .func (.func 70) #[] #[.pointer (some ⟨w.heap.size + 1 + 1 + 1 + 1, 0, none⟩), .pointer (some ⟨w.heap.size + 1 + 1 + 1, 0, none⟩), .pointer (some ⟨w.heap.size + 1 + 1 + 1 + 1 + 1, 0, none⟩)], .string ⟨x.1.toArray⟩, undef, undef, undef, undef, undef, undef, undef, undef, undef, undef, undef, undef, undef, undef, undef, undef, undef, undef], defers := [] })
    (fun O x a' A C h hk => h) ?assign ?body ?done ?stop
  case hI =>
    rintro O s' A C ⟨⟨v, l, h1, h2, h3, h4, h5⟩, h6, h7, h8⟩ hk
    have own : ∀ k, k < w2.heap.size → k ≠ w.heap.size + 1 + 1 + 1 → IterS (fun k => k = w.heap.size + 1 + 1 + 1) w2.heap.size O k := fun k h h' => ⟨h', .inl h⟩
    exact ⟨⟨v, l, hk.heap h1 (own _ (by omega) (by omega)), owns_kept h2 hk (fun g hg => ⟨by have := (h2.lt g hg).1; omega, .inr (h3 g hg)⟩), h3, h4, h5⟩, hk.heap h6 (own _ (by omega) (by omega)), hk.heap h7 (own _ (by omega) (by omega)), h8.trans (hk.below h8.size fun k hk' => own k (by omega) (by omega))⟩
  case hIx =>
    rintro c O s' A C ⟨h1, h2, h6, h7, h8⟩ hk
    have own : ∀ k, k < w2.heap.size → k ≠ w.heap.size + 1 + 1 + 1 → IterS (fun k => k = w.heap.size + 1 + 1 + 1) w2.heap.size O k := fun k h h' => ⟨h', .inl h⟩
    exact ⟨h1, h2, hk.heap h6 (own _ (by omega) (by omega)), hk.heap h7 (own _ (by omega) (by omega)), h8.trans (hk.below h8.size fun k hk' => own k (by omega) (by omega))⟩
  case assign =>
    intro O pre x A K hO hA hi' hK
    have HK := Lib.hid hK
    have HI := Lib.hid hi'
    clear hK hi'
    unfold encT
    gi_wp2
    exact HK.out _ _ (Keeps.refl _ _) HI.out rfl
  case body =>
    rintro O pre x a' A hO hA ⟨r, hr⟩ ⟨⟨v, l, hv, hrow, hown, hp, hll⟩, hr1, hr2, hB⟩ rfl hlen
    clear hr
    have hpl : (splitL 44 s.data.toList).length ≤ s.size + 1 := by
      have h := splitL_len 44 s.data.toList
      rwa [show s.data.toList.length = s.size from Array.length_toList] at h
    have hlN : l.length ≤ 100001 := by omega
    have hrs := in_round (l := w2.heap.size + 1) (readSpan_any ⟨x.1.toArray⟩ A (by show x.1.toArray.size ≤ _; have := x.2; simp; omega))
    simp only at hrs
    have hsnoc : Rs.pieces ((pre ++ [x]).map (·.1)) = Rs.step l x.1 := by
      rw [List.map_append, List.map_cons, List.map_nil, Rs.pieces_snoc, hp]; rfl
    have HSN := Lib.hid hsnoc
    have hszA := hB.size
    have HP := Lib.hid hp
    have HO := Lib.hid hO
    have HDt := Lib.hid hDt
    have HPv := Lib.hid hPv
    clear hsnoc hpl hlen hp hO hDt hPv hseq e0 e1 e2 e3 e4 e5
    cases hsp : Rs.span x.1 with
    | none =>
      rw [hsp] at hrs
      have hstep : Rs.step l x.1 = none := by unfold Rs.step; rw [hsp]
      have HST := Lib.hid hstep
      clear hsp hstep
      have HV := Lib.hid hv
      have HR := Lib.hid hrow
      clear hv hrow
      gi_wp2_with (refine ⟨trivial, rfl, ?_⟩; refine hrs.mono ?_; rintro e W1 ⟨⟨sx, sy, rfl, -⟩, hb1⟩; have r1' : Boxed W1 w.heap.size 22 (.slice none 0 0) := (hb1.block _ (by omega)).trans hr1; have r2' : Boxed W1 (w.heap.size + 1) 4 (.bool false) := (hb1.block _ (by omega)).trans hr2; have g1 := r1'.cell; have g2 := r1'.frozen; have g3 := r2'.cell; have g4 := r2'.frozen; have g5 := r1'.lt; have g6 := r2'.lt; have HB1 := Lib.hid hb1; clear hb1 hrs)
      refine ⟨trivial, ?_⟩
      have q1 := (boxed_two r1' r2' (.slice none 0 0) (.bool false)).1.alloc (.cells #[.int .i64 sx, .int .i64 sy] 39)
      have q2 := (boxed_two r1' r2' (.slice none 0 0) (.bool false)).2.alloc (.cells #[.int .i64 sx, .int .i64 sy] 39)
      have hkk := ((((Keeps.of_below (S := fun k => k < A.heap.size) HB1.out (fun _ _ h => h)).mono (S' := fun k => k ≠ w.heap.size ∧ k ≠ w.heap.size + 1) (fun k h _ => h)).setCell (p := ⟨w.heap.size, 0, none⟩) (.inr (by simp)) (.slice none 0 0)).setCell (p := ⟨w.heap.size + 1, 0, none⟩) (.inr (by simp)) (.bool false)).alloc (.cells #[.int .i64 sx, .int .i64 sy] 39)
      have HE := Lib.hid (fun aa => bad_end (xs := pre ++ [x]) hkk q1 q2 hB HO.out (by omega) HDt.out HPv.out (by rw [HSN.out, HST.out]) aa)
      clear q1 q2 hkk
      gi_wp2
      exact HE.out _
    | some sp =>
      rw [hsp] at hrs
      have hstep : Rs.step l x.1 = if Rs.foll l sp = true then some (l ++ [sp]) else none := by unfold Rs.step; rw [hsp]
      have HST := Lib.hid hstep
      have HRNG := Lib.hid (pieces_range HP.out)
      clear hsp hstep
      obtain ⟨a0, cap0, rfl, hsp0, -⟩ := spans_of_row hrow (by omega) (fun t ht => by have := HRNG.out t ht; omega)
      have hfo := fun (W1 : World) (h : Below A.heap.size A W1) => in_round (l := w2.heap.size + 1) (follows_any a0 cap0 l sp (W1.alloc (.cells #[.int .i64 sp.1, .int .i64 sp.2] 39)) (by omega) HRNG.out (hsp0.later (h.alloc h.size _)))
      have HFO := Lib.hid hfo
      have HV := Lib.hid hv
      have HR := Lib.hid hrow
      clear hv hrow hfo hsp0
      gi_wp2_with (refine ⟨trivial, rfl, ?_⟩; refine hrs.mono ?_; rintro e W1 ⟨⟨sx, sy, rfl, hxy⟩, hb1⟩; obtain rfl := hxy sp rfl; have v1' : Boxed W1 (w.heap.size + 1 + 1) 22 (.slice a0 l.length cap0) := (hb1.block _ (by omega)).trans HV.out; have c0 := v1'.cell; have c00 := v1'.lt; have HB1 := Lib.hid hb1; clear hb1 hrs)
      have hfo := HFO.out W1 HB1.out
      have hall : Below A.heap.size A (W1.alloc (.cells #[.int .i64 sx, .int .i64 sy] 39)) := HB1.out.alloc HB1.out.size _
      have HALL := Lib.hid hall
      have hspx : (W1.alloc (.cells #[.int .i64 sx, .int .i64 sy] 39)).heap[W1.heap.size]? = some (.cells #[.int .i64 sx, .int .i64 sy] 39 (0, 0)) := World.alloc_heap_new W1 _
      have HX := Lib.hid hspx
      clear hall hspx c0 c00 v1'
      cases hf : Rs.foll l (sx, sy) with
      | false =>
        rw [hf] at hfo
        have hbad : Rs.step l x.1 = none := by rw [HST.out, hf]; rfl
        have HBAD := Lib.hid hbad
        clear hbad hf
        gi_wp2_with (refine ⟨trivial, rfl, ?_⟩; refine hfo.mono ?_; rintro e Wf ⟨rfl, hbf⟩; have hbA : Below A.heap.size A Wf := HALL.out.trans (hbf.mono HALL.out.size); have r1' : Boxed Wf w.heap.size 22 (.slice none 0 0) := (hbA.block _ (by omega)).trans hr1; have r2' : Boxed Wf (w.heap.size + 1) 4 (.bool false) := (hbA.block _ (by omega)).trans hr2; have g1 := r1'.cell; have g2 := r1'.frozen; have g3 := r2'.cell; have g4 := r2'.frozen; have g5 := r1'.lt; have g6 := r2'.lt; have HBA := Lib.hid hbA; clear hbf hbA hfo)
        have q1 := (boxed_two r1' r2' (.slice none 0 0) (.bool false)).1
        have q2 := (boxed_two r1' r2' (.slice none 0 0) (.bool false)).2
        have hkk := ((((Keeps.of_below (S := fun k => k < A.heap.size) HBA.out (fun _ _ h => h)).mono (S' := fun k => k ≠ w.heap.size ∧ k ≠ w.heap.size + 1) (fun k h _ => h)).setCell (p := ⟨w.heap.size, 0, none⟩) (.inr (by simp)) (.slice none 0 0)).setCell (p := ⟨w.heap.size + 1, 0, none⟩) (.inr (by simp)) (.bool false))
        exact bad_end (xs := pre ++ [x]) hkk q1 q2 hB HO.out (by omega) HDt.out HPv.out (by rw [HSN.out, HBAD.out]) _
      | true =>
        rw [hf] at hfo
        have hgood : Rs.step l x.1 = some (l ++ [(sx, sy)]) := by rw [HST.out, hf]; rfl
        have HGOOD := Lib.hid hgood
        clear hgood hf
        gi_wp2_with (first
          | (refine ⟨trivial, rfl, ?_⟩; refine hfo.mono ?_; rintro e Wf ⟨rfl, hbf⟩; have hbA : Below A.heap.size A Wf := HALL.out.trans (hbf.mono HALL.out.size); have vf : Boxed Wf (w.heap.size + 1 + 1) 22 (.slice a0 l.length cap0) := (hbA.block _ (by omega)).trans HV.out; have g1 := vf.cell; have g5 := vf.lt; have xf : Wf.heap[W1.heap.size]? = some (.cells #[.int .i64 sx, .int .i64 sy] 39 (0, 0)) := (hbf.block _ (by simp)).trans HX.out; obtain ⟨y1, y2, -, -⟩ := cells_two xf; have hrf := owns_kept HR.out (Keeps.of_below (S := fun k => k < A.heap.size) hbA (fun _ _ h => h)) (fun g hg => (HR.out.lt g hg).2); have HVF := Lib.hid vf; have HBA := Lib.hid hbA; clear hbf hbA hfo xf vf)
          | (gi_at_builtin; refine wpListIn_append_own_at _ rfl (.tmp 26) (.tmp 28) 22 rfl (w.heap.size + 6) 39 i0 (.agg #[.int .i64 0, .int .i64 0]) 2 16 Tryd.underlying22 hi hz0 hz1 hz2 rfl (by decide) _ _ _ rfl (hrf.alloc _) ⟨Wf.heap.size, 0, none⟩ 1 1 [.int .i64 sx, .int .i64 sy] rfl rfl (pair_news _ _ rfl _ _ _) (by intro u hu; simp at hu; rcases hu with rfl | rfl <;> rfl) (by unfold maxLen; omega) (by omega) (by have := HBA.out.size; simp; omega) ?_; intro v' w1 hown1 hgrow _ hat; obtain ⟨g', cap', rfl⟩ := ownsRow_succ hown1; have hkf : Keeps (fun k => some k ≠ (Value.slice a0 l.length cap0).ownBlock) Wf w1 := ((Keeps.refl _ Wf).alloc _).trans (Keeps.of_grown hgrow fun r e h => h e.symm); have vw : Boxed w1 (w.heap.size + 1 + 1) 22 (.slice a0 l.length cap0) := hkf.heap HVF.out (fun e => by have := (hrf.lt _ e.symm).1; omega); have z1 := vw.cell; have z2 := vw.frozen; have HROW := Lib.hid hown1; have HKF := Lib.hid hkf; have HAT : Hid ((Value.slice (some ⟨g', 0, none⟩) (l.length + 1) cap').ownBlock = (Value.slice a0 l.length cap0).ownBlock ∨ (Value.slice (some ⟨g', 0, none⟩) (l.length + 1) cap').ownBlock = some (Wf.heap.size + 1)) := Lib.hid (hat.imp id (fun h => h.trans (by simp))); have HRF := Lib.hid hrf; clear hown1 hgrow hat hkf vw hrf))
        exact row_end (A0 := A) (A := Wf) HVF.out HRF.out hown (by rw [HSN.out, HGOOD.out]) hll ((HBA.out.block _ (by omega)).trans hr1) ((HBA.out.block _ (by omega)).trans hr2) (hB.trans (HBA.out.mono hB.size)) HBA.out.size (Keeps.of_below HBA.out fun k h _ => h) HO.out (by omega) HDt.out HPv.out HROW.out HKF.out HAT.out _
  case done =>
    rintro O D xs A hD hDs hO - hSx ⟨⟨v, l, hv, hrow, hown, hp, hll⟩, hr1, hr2, hB⟩ hDd
    have hrd : readD s.data.toList = some l := by rw [HRD.out, ← hSx, hp]
    have HRR := Lib.hid hrd
    have HROW := Lib.hid hrow
    have hvs : ∃ a c, v = .slice a l.length c := by
      rcases hrow.2 with ⟨h1, h2⟩ | ⟨g, cap, _, h1, _⟩
      · exact ⟨none, 0, by rw [h1, h2]⟩
      · exact ⟨_, _, h1⟩
    obtain ⟨a, c, rfl⟩ := hvs
    have g0 := hv.cell
    have g1 := hr1.cell
    have g2 := hr1.frozen
    have g3 := hr2.cell
    have g4 := hr2.frozen
    have g5 := hr1.lt
    have g6 := hr2.lt
    clear hrd hrow hSx
    gi_wp2
    obtain ⟨q1, q2⟩ := boxed_two hr1 hr2 (.slice a l.length c) (.bool true)
    have hk1 : Keeps (fun k => k ≠ w.heap.size ∧ k ≠ w.heap.size + 1) A ((A.setCell ⟨w.heap.size, 0, none⟩ (.slice a l.length c)).setCell ⟨w.heap.size + 1, 0, none⟩ (.bool true)) :=
      ((Keeps.refl _ A).setCell (.inr (by simp)) _).setCell (.inr (by simp)) _
    have hDd1 := hk1.heap hDd ⟨by omega, by omega⟩
    refine ⟨by simp, .inl ⟨_, _, rfl, run_takeDeferred hDd1, ?_⟩⟩
    have hk2 : Keeps (fun k => k ≠ D) ((A.setCell ⟨w.heap.size, 0, none⟩ (.slice a l.length c)).setCell ⟨w.heap.size + 1, 0, none⟩ (.bool true)) (((A.setCell ⟨w.heap.size, 0, none⟩ (.slice a l.length c)).setCell ⟨w.heap.size + 1, 0, none⟩ (.bool true)).putObj D (.deferred none)) := (Keeps.refl _ _).putObj (fun h => h rfl) _
    have p1 : Boxed _ w.heap.size 22 _ := hk2.heap q1 (by omega)
    have p2 : Boxed _ (w.heap.size + 1) 4 _ := hk2.heap q2 (by omega)
    have p3 := p1.cell
    have p4 := p2.cell
    rw [HRR.out]
    refine ⟨.tuple #[.slice a l.length c, .bool true], ?_, .slice a l.length c, rfl, ?_, ?_⟩
    · simp [results, Tryd.f26, go_sem, p3, p4]
    · refine owns_kept (owns_kept HROW.out hk1 ?_) hk2 ?_
      · intro g hg; have := (HROW.out.lt g hg).1; exact ⟨by omega, by omega⟩
      · intro g hg; have := (hO g (hown g hg)).1; omega
    · exact (hB.trans (hk1.below hB.size fun k hk => ⟨by omega, by omega⟩)).trans (hk2.below (by simp; exact hB.size) fun k hk => by omega)
  case stop =>
    rintro O D c pre A hD hDs hO - ⟨ys, hys⟩ ⟨rfl, hbad, hr1, hr2, hB⟩ hDd
    have hrd : readD s.data.toList = none := by rw [HRD.out, ← hys]; exact Rs.pieces_fail hbad
    have HRR := Lib.hid hrd
    clear hrd hys
    gi_wp2
    refine ⟨by simp, .inl ⟨_, _, rfl, run_takeDeferred hDd, ?_⟩⟩
    have hk2 : Keeps (fun k => k ≠ D) A (A.putObj D (.deferred none)) := (Keeps.refl _ _).putObj (fun h => h rfl) _
    have p1 : Boxed _ w.heap.size 22 _ := hk2.heap hr1 (by omega)
    have p2 : Boxed _ (w.heap.size + 1) 4 _ := hk2.heap hr2 (by omega)
    have p3 := p1.cell
    have p4 := p2.cell
    refine ⟨.tuple #[.slice none 0 0, .bool false], ?_, by rw [HRR.out]; exact ⟨.slice none 0 0, rfl, World.ownsRow_nil _ _ _ _, hB.trans (hk2.below hB.size fun k hk => by omega)⟩⟩
    simp [results, Tryd.f26, go_sem, p3, p4]

set_option maxRecDepth 100000 in
set_option maxHeartbeats 2000000 in
theorem read_nil (s : ByteArray) (w : World) (h0 : s.data.toList = []) :
    CallsIn Fence.wide 0 Tryd.prog 26 #[.string s] w (ReadOut w (readD s.data.toList)) := by
  have hse : s.toList.isEmpty = true := by rw [Lib.toList_data, h0]; rfl
  have HRD : Hid (readD s.data.toList = some []) := Lib.hid (if_pos h0)
  clear h0
  refine callsIn_of_wp Tryd.func26 rfl trivial ?_ rfl
  simp only [Tryd.ntmps26, List.size_toArray, List.length_cons, List.length_nil, Nat.reduceAdd, Nat.reduceSub, Array.replicate_succ, Array.replicate_zero, List.push_toArray, List.append_toArray, List.nil_append, List.cons_append]
  gi_wp2
  refine bodyPost_ret (v := .tuple #[.slice none 0 0, .bool true]) (by simp [results, Tryd.f26, go_sem]) rfl ?_
  rw [HRD.out]
  refine ⟨.slice none 0 0, rfl, World.ownsRow_nil _ _ _ _, ?_⟩
  exact ((Keeps.refl (fun k => k < w.heap.size) w).alloc _ |>.alloc _).below (Nat.le_refl _) fun _ h => h

theorem read_any (s : ByteArray) (w : World) (hs : s.size ≤ 100000) :
    CallsIn Fence.wide 0 Tryd.prog 26 #[.string s] w (ReadOut w (readD s.data.toList)) := by
  by_cases h0 : s.data.toList = []
  · exact read_nil s w h0
  · exact read_some s w hs h0

end Go.Proofs.YtlbmkgnfbkimaaaDoor
