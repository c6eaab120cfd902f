/- The contracts of hash.list, Names and Vals: what an iterator hands out, in rows of the call's own. -/
import Derived.Test.YtfbfejeccfoioaaHsWith
import Derived.Test.YtfbfejeccfoioaaRoundWp
import Derived.Deep.AppendLies
import Derived.Deep.RegionHeld3
namespace Go.Proofs.Ytfbfejeccfoioaa
open Go.RowKit Go.Shelf
attribute [local go_sem] Oper.semAt_some
set_option linter.unusedVariables false
set_option linter.unusedSimpArgs false

theorem cell_next {A B : World} {p : Addr} {v : Value} (h : A.cell? p = some v) (hb : Below A.heap.size A B) : B.cell? p = some v := (hb.cell (World.block_lt_of_cell? A p h)).trans h
theorem two_news (w : World) (x y : Value) (t : TypeId) : ∀ (j : Nat) (u : Value), [x, y][j]? = some u → (w.alloc (.cells #[x, y] t)).cell? ((⟨w.heap.size, 0, none⟩ : Addr).add j) = some u :=
  fun j u h => by
    have := World.news_of_block (World.alloc_heap_new w (.cells #[x, y] t)) j u h
    exact this
theorem two_one (x y : List UInt8) : ∀ u ∈ [Value.string ⟨x.toArray⟩, Value.string ⟨y.toArray⟩], u.oneCell' = true := by simp [Value.oneCell']
theorem own_post_no {α : Type} {R : Nat → Prop} {O : Nat → Prop} {I : (Nat → Prop) → List α → World → Prop} {Ix : Code → (Nat → Prop) → List α → World → Prop} {xs : List α} {W : World} : ¬ LetsOut (ownPostT R O I Ix xs W) := by
  rintro ⟨a, w, h⟩
  exact h

theorem own_block_no {α : Type} {id : Nat} {R : Nat → Prop} {O : Nat → Prop} {I : (Nat → Prop) → List α → World → Prop} {Ix : Code → (Nat → Prop) → List α → World → Prop} {xs : List α} {W : World} : ¬ LetsOut (Exit.inBlock id (ownPostT R O I Ix xs W)) := by
  rintro ⟨a, w, h⟩
  exact h

/-- the row that a loop appends to, in its box. -/
def LInv (t e : TypeId) (sz : Nat) (cells : List Fd → List Value) (w : World) (O : Nat → Prop) (pre : List Fd) (W : World) : Prop :=
  (∃ v, Boxed W w.heap.size t v ∧ W.ownsRow (w.heap.size + 1) e sz v pre.length (cells pre) ∧ ∀ g, v.ownBlock = some g → O g) ∧ Below w.heap.size w W

theorem LInv.abides {t e : TypeId} {sz : Nat} {cells : List Fd → List Value} {w : World} {B : Nat} (hB : B = w.heap.size + 1) : AbidesT B (fun _ => False) (LInv t e sz cells w) := by
  rintro O s A C ⟨⟨v, h1, h2, h4⟩, h5⟩ hk
  have own : ∀ k, k < B → IterS (fun _ => False) B O k := fun k h => ⟨id, .inl h⟩
  exact ⟨⟨v, hk.heap h1 (own _ (by omega)), owns_kept h2 hk (fun g hg => ⟨id, .inr (h4 g hg)⟩), h4⟩, h5.trans (hk.below h5.size fun k hk' => own k (by omega))⟩

/-- one round: the row has grown by one. -/
theorem LInv.round {t e : TypeId} {sz : Nat} {cells : List Fd → List Value} {w A w2 w3 : World} {O : Nat → Prop} {pre : List Fd} {x : Fd} {v : Value} {o : Obj} {g cap B m : Nat} {news : List Value} {aa : Act} {Ix : Code → (Nat → Prop) → List Fd → World → Prop}
    (hv : Boxed A w.heap.size t v) (hrow : A.ownsRow (w.heap.size + 1) e sz v pre.length (cells pre)) (hown : ∀ g, v.ownBlock = some g → O g) (hB : Below w.heap.size w A) (hO : ∀ k, O k → B + 2 ≤ k ∧ k < A.heap.size) (hBs : B = w.heap.size + 1) (hm : m ≤ w.heap.size)
    (hk : Keeps (fun _ => True) A w2) (hc : cells (pre ++ [x]) = cells pre ++ news)
    (h3 : w3.ownsRow (w.heap.size + 1) e sz (.slice (some ⟨g, 0, none⟩) (pre.length + 1) cap) (pre.length + 1) (cells pre ++ news)) (hg : (w2.alloc o).grownBy w3 v.ownBlock) (hat : v.ownBlock = some g ∨ g = (w2.alloc o).heap.size) (hlt : g < w3.heap.size) :
    ownPostT (RoundS (fun k => k < m) (fun _ => False) B O) O (LInv t e sz cells w) Ix (pre ++ [x]) A .normal aa (w3.setCell ⟨w.heap.size, 0, none⟩ (.slice (some ⟨g, 0, none⟩) (pre.length + 1) cap)) := by
  have hk3 : Keeps (fun k => some k ≠ v.ownBlock) A w3 := ((hk.mono fun _ _ _ => trivial).alloc o).trans (Keeps.of_grown hg fun r e h => h e.symm)
  have hv3 : Boxed w3 w.heap.size t v := hk3.heap hv (fun e => by have := (hrow.lt _ e.symm).1; omega)
  refine ⟨?_, fun k => O k ∨ (A.heap.size ≤ k ∧ k < w3.heap.size), ?_, ⟨_, hv3.set _, ?_, ?_⟩, ?_⟩
  · refine (hk3.mono ?_).setCell (.inr ?_) _
    · rintro k hkA h e
      have hgk := hrow.lt k e.symm
      rcases h with h | h | h
      · omega
      · exact h
      · exact h.2 (hown k e.symm)
    · rintro (h | h | h)
      · simp at h; omega
      · exact h
      · have := h.1; simp at this; omega
  · rintro k (h | h)
    · exact ⟨by simp [World.setCell]; exact Nat.lt_of_lt_of_le (hO k h).2 hk3.size, .inl h⟩
    · exact ⟨by simp [World.setCell]; exact h.2, .inr h.1⟩
  · rw [hc, List.length_append]
    exact ownsRow_setCell_below h3 (by simp) _
  · intro g' hg'
    have e' : g' = g := by simp [Value.ownBlock] at hg'; exact hg'.symm
    subst e'
    rcases hat with e | e
    · exact .inl (hown _ e)
    · refine .inr ⟨?_, hlt⟩
      rw [e]
      simp
      have := hk.size
      omega
  · exact (hB.trans (hk3.below hB.size fun k hk' e => by have := (hrow.lt k e.symm).1; omega)).setCell (p := ⟨w.heap.size, 0, none⟩) (Nat.le_refl _) _

set_option maxRecDepth 100000 in
set_option maxHeartbeats 4000000 in
theorem list_any (gf : Nat) (lb : Array Value) (eg : ∀ args w, (callFunc gf args).run Try.prog w = .ok (.enter gf args) w) (N : Nat) (xs : List Fd) (w : World) (hN : N ≤ 1000000)
    (hseq : SeqB OkF false Try.prog gf lb encF (fun k => k < w.heap.size) (fun _ => False) (fun ys => ys = xs) (fun _ => False) N w) :
    CallsIn Fence.wide 0 Try.prog 23 #[.func (.func gf) #[] lb] w fun e W' => ∃ u, e = .returned u ∧ RowF w u xs W' := by
  obtain ⟨iF, hiF, hiF0, hiF1, hiF2⟩ := info_parts infoF
  refine callsIn_of_wp_marks Try.func23 rfl trivial ?_ rfl
  simp only [Try.ntmps23, List.size_toArray, List.length_cons, List.length_nil, Nat.reduceAdd, Nat.reduceSub, Array.replicate_succ, Array.replicate_zero, List.push_toArray, List.append_toArray, List.nil_append, List.cons_append]
  gi_wp2
  obtain ⟨w2, hw2⟩ : ∃ w2, w.alloc (.cells #[.slice none 0 0] 22) = w2 := ⟨_, rfl⟩
  have hs2 : w2.heap.size = w.heap.size + 1 := by rw [← hw2]; simp
  have hbox0 : Boxed w2 w.heap.size 22 (.slice none 0 0) := by rw [← hw2]; exact Boxed.new w _ _
  have hBw : Below w.heap.size w w2 := by rw [← hw2]; exact (Below.refl _ w).alloc (Nat.le_refl _) _
  rw [hw2]
  clear hw2
  refine wpIn_rangeB (gf := gf) (lb := lb) rfl eg hseq hBw (fun k h => by omega) (fun k h => h.elim) (fun _ => rfl)
    (LInv 22 42 2 fcells w) (fun _ _ _ _ => False) (LInv.abides hs2) (fun _ _ _ _ _ h _ => h) (fun _ _ _ _ _ h => h) ⟨⟨_, hbox0, World.ownsRow_nil _ _ _ _, by simp [Value.ownBlock]⟩, hBw⟩
    (fun _ x a' _ => a' = { tmps := #[.func (.func gf) #[] lb, undef, .slice none 0 0, .pointer (some ⟨w.heap.size, 0, none⟩), .string ⟨x.1.toArray⟩, .string ⟨x.2.toArray⟩, .func (.func gf) #[] lb, .string ⟨x.1.toArray⟩, .string ⟨x.2.toArray⟩, undef, undef, undef, undef, undef, undef, undef, undef, undef], defers := [] })
    (fun O x a' A C h hk => h) ?assign ?body ?done ?stop
  case assign =>
    intro O pre x A K hO hA hi hK
    have HK := Lib.hid hK
    have HI := Lib.hid hi
    clear hK hi
    unfold encF
    gi_wp2
    exact HK.out _ _ (Keeps.refl _ _) HI.out rfl
  case body =>
    rintro O pre x a' A hO hA ⟨r, hr⟩ ⟨⟨v, hv, hrow, hown⟩, hB⟩ rfl hlen hT
    obtain ⟨x1, x2⟩ := x
    have HC1 := Lib.hid (fun W => clone_any x1 W (by have := hT.1; simp at this; omega))
    have HC2 := Lib.hid (fun W => clone_any x2 W (by have := hT.2; simp at this; omega))
    have hzB := hB.size
    have HS0 : A.drew.cell? ⟨w.heap.size, 0, none⟩ = some v := (World.cell?_drew _ _).trans hv.cell
    refine wpIn_block ?_
    dsimp only
    refine wpIn_region_L (S := fun W => W.cell? ⟨w.heap.size, 0, none⟩ = some v) (f := 8) (by kernel_rfl) own_block_no (by kernel_rfl) ?_
    refine wpAnyL_take (i := 0) (some 9) (v := v) rfl rfl (by kernel_rfl) (by kernel_rfl) (by kernel_rfl) (by kernel_rfl) (fun _ _ _ h => h) (by rfl) (fun W hS => ?_) HS0 ?_
    · have m0 := hS
      go_simp
    try simp only [Act.put, List.setIfInBounds_toArray, List.set_cons_zero, List.set_cons_succ]
    refine wpAnyL_take (i := 1) (some 10) (v := .string ⟨x1.toArray⟩) rfl rfl (by kernel_rfl) (by kernel_rfl) (by kernel_rfl) (by kernel_rfl) (fun _ _ _ h => h) (by rfl) (fun W hS => ?_) HS0 ?_
    · have m0 := hS
      go_simp
    try simp only [Act.put, List.setIfInBounds_toArray, List.set_cons_zero, List.set_cons_succ]
    refine wpAnyL_take (i := 3) (some 12) (v := .string ⟨x2.toArray⟩) rfl rfl (by kernel_rfl) (by kernel_rfl) (by kernel_rfl) (by kernel_rfl) (fun _ _ _ h => h) (by rfl) (fun W hS => ?_) HS0 ?_
    · have m0 := hS
      go_simp
    try simp only [Act.put, List.setIfInBounds_toArray, List.set_cons_zero, List.set_cons_succ]
    refine wpAnyL_one (j := 2) (by kernel_rfl) rfl (by rfl) (fun K hK => ?_)
    go_simp
    with_reducible refine (HC1.out _).mono ?_
    rintro e w1 ⟨rfl, hb⟩
    have HS1 := cell_next HS0 hb
    have HB1 := Lib.hid hb
    clear hb
    refine hK _ _ (fun _ => HS1) ?_
    clear hK K
    try simp only [Act.put, List.setIfInBounds_toArray, List.set_cons_zero, List.set_cons_succ]
    refine wpAnyL_one (j := 4) (by kernel_rfl) rfl (by rfl) (fun K hK => ?_)
    go_simp
    with_reducible refine (HC2.out _).mono ?_
    rintro e w2 ⟨rfl, hb⟩
    have HS2 := cell_next HS1 hb
    have HB2 := Lib.hid hb
    clear hb
    refine hK _ _ (fun _ => HS2) ?_
    clear hK K
    try simp only [Act.put, List.setIfInBounds_toArray, List.set_cons_zero, List.set_cons_succ]
    refine wpAnyL_take (i := 5) (some 14) (v := .agg #[.string ⟨x1.toArray⟩, .string ⟨x2.toArray⟩]) rfl rfl (by kernel_rfl) (by kernel_rfl) (by kernel_rfl) (by kernel_rfl) (fun _ _ _ h => h) (by rfl) (fun W hS => ?_) HS2 ?_
    · have m0 := hS
      go_simp
    try simp only [Act.put, List.setIfInBounds_toArray, List.set_cons_zero, List.set_cons_succ]
    refine wpAnyL_one (j := 6) (by kernel_rfl) rfl (by rfl) (fun K hK => ?_)
    refine oper_wp_val (v := .slice (some ⟨w2.heap.size, 0, none⟩) 1 1) (w' := w2.alloc (.cells #[.string ⟨x1.toArray⟩, .string ⟨x2.toArray⟩] 42)) (by go_simp) ?_
    have hk2 : Keeps (fun _ => True) A w2 := ((Keeps.refl (fun _ => True) A).drew.trans (Keeps.of_below HB1.out fun _ h _ => h)).trans (Keeps.of_below HB2.out fun _ h _ => h)
    have hz2 := hk2.size
    have HO2 := Lib.hid (owns_kept (S := fun _ => True) hrow hk2 fun _ _ => trivial)
    have HK2 := Lib.hid hk2
    have HS3 := cell_next HS2 ((Below.refl _ w2).alloc (Nat.le_refl _) (.cells #[.string ⟨x1.toArray⟩, .string ⟨x2.toArray⟩] 42))
    refine hK _ _ (fun _ => HS3) ?_
    clear hK K hk2
    try simp only [Act.put, List.setIfInBounds_toArray, List.set_cons_zero, List.set_cons_succ]
    refine wpAnyL_one (j := 7) (by kernel_rfl) rfl (by rfl) (fun K hK => ?_)
    refine wp_append_lies _ (.tmp 9) (.tmp 15) 22 rfl (w.heap.size + 1) 42 iF _ 2 32 Try.underlying22 hiF hiF0 hiF1 hiF2 rfl (by decide) v pre.length (fcells pre) rfl (HO2.out.alloc _) ⟨w2.heap.size, 0, none⟩ 1 1 [.string ⟨x1.toArray⟩, .string ⟨x2.toArray⟩] rfl rfl (two_news w2 _ _ _) (two_one _ _) (by decide) (by unfold maxLen; omega) (by omega) (by simp; omega) _ rfl ?_
    intro g cap w3 hown3 hgrow hat hlt3
    have HE := Lib.hid (fun aa => LInv.round (cells := fcells) (pre := pre) (x := (x1, x2)) (aa := aa) (m := w.heap.size) (Ix := fun _ _ _ _ => False) hv hrow hown hB hO hs2 (Nat.le_refl _) HK2.out (fcells_snoc _ _ _) hown3 hgrow hat hlt3)
    have hne : some w.heap.size ≠ v.ownBlock := fun e => by have := (hrow.lt _ e.symm).1; omega
    have hv3 : Boxed w3 w.heap.size 22 v := (((HK2.out.mono fun _ _ _ => trivial).alloc _).trans (Keeps.of_grown (S := fun k => some k ≠ v.ownBlock) hgrow fun r e h => h e.symm)).heap hv hne
    have HS4 := hv3.cell
    have f4 := hv3.frozen
    clear hown3 hgrow hat hlt3
    refine hK _ _ (fun _ => HS4) ?_
    clear hK K
    try simp only [Act.put, List.setIfInBounds_toArray, List.set_cons_zero, List.set_cons_succ]
    refine wpAnyL_one (j := 8) (by kernel_rfl) rfl (by rfl) (fun K hK => ?_)
    go_simp
    refine hK _ _ (fun h => (h rfl).elim) ?_
    clear hK K
    try simp only [Act.put, List.setIfInBounds_toArray, List.set_cons_zero, List.set_cons_succ]
    refine wpAnyL_done (by kernel_rfl) ?_ _
    exact HE.out { tmps := #[], defers := [] }
  case done =>
    rintro O D ys A hD hDs hO - rfl ⟨⟨v, hv, hrow, hown⟩, hB⟩ hDd
    have b1 := hv.cell
    have hk : Keeps (fun k => k ≠ D) A (A.putObj D (.deferred none)) := (Keeps.refl _ A).putObj (fun h => h rfl) _
    gi_wp2
    refine ⟨by simp, .inl ⟨_, _, rfl, run_takeDeferred hDd, ?_⟩⟩
    refine ⟨_, results_tmp rfl _ _ _, v, rfl, owns_base (owns_kept hrow hk (fun g hg => ?_)) (by omega), hB.trans (hk.below hB.size fun k hk => by omega)⟩
    have := (hO g (hown g hg)).1
    omega
  case stop =>
    rintro O D c pre A _ _ _ _ h _ _
    exact h.elim

/-- one round, where the iterator lies behind the box. -/
theorem LInvW.round {t e : TypeId} {sz : Nat} {cells : List Fd → List Value} {w A w2 w3 : World} {O : Nat → Prop} {pre : List Fd} {x : Fd} {v : Value} {o : Obj} {g cap B : Nat} {news : List Value} {aa : Act} {Ix : Code → (Nat → Prop) → List Fd → World → Prop}
    (hv : Boxed A w.heap.size t v) (hrow : A.ownsRow (w.heap.size + 1) e sz v pre.length (cells pre)) (hown : ∀ g, v.ownBlock = some g → O g) (hB : Below w.heap.size w A) (hO : ∀ k, O k → B + 2 ≤ k ∧ k < A.heap.size) (hBs : B = w.heap.size + 2)
    (hk : Keeps (fun _ => True) A w2) (hc : cells (pre ++ [x]) = cells pre ++ news)
    (h3 : w3.ownsRow (w.heap.size + 1) e sz (.slice (some ⟨g, 0, none⟩) (pre.length + 1) cap) (pre.length + 1) (cells pre ++ news)) (hg : (w2.alloc o).grownBy w3 v.ownBlock) (hat : v.ownBlock = some g ∨ g = (w2.alloc o).heap.size) (hlt : g < w3.heap.size) :
    ownPostT (RoundS (fun k => k < B ∧ k ≠ w.heap.size) (fun _ => False) B O) O (LInv t e sz cells w) Ix (pre ++ [x]) A .normal aa (w3.setCell ⟨w.heap.size, 0, none⟩ (.slice (some ⟨g, 0, none⟩) (pre.length + 1) cap)) := by
  have hk3 : Keeps (fun k => some k ≠ v.ownBlock) A w3 := ((hk.mono fun _ _ _ => trivial).alloc o).trans (Keeps.of_grown hg fun r e h => h e.symm)
  have hv3 : Boxed w3 w.heap.size t v := hk3.heap hv (fun e => by have := (hrow.lt _ e.symm).1; omega)
  refine ⟨?_, fun k => O k ∨ (A.heap.size ≤ k ∧ k < w3.heap.size), ?_, ⟨_, hv3.set _, ?_, ?_⟩, ?_⟩
  · refine (hk3.mono ?_).setCell (.inr ?_) _
    · rintro k hkA h e
      have hgo := hO k (hown k e.symm)
      rcases h with h | h | h
      · omega
      · exact h
      · exact h.2 (hown k e.symm)
    · rintro (h | h | h)
      · exact h.2 rfl
      · exact h
      · have := h.1; simp at this; omega
  · rintro k (h | h)
    · exact ⟨by simp [World.setCell]; exact Nat.lt_of_lt_of_le (hO k h).2 hk3.size, .inl h⟩
    · exact ⟨by simp [World.setCell]; exact h.2, .inr h.1⟩
  · rw [hc, List.length_append]
    exact ownsRow_setCell_below h3 (by simp) _
  · intro g' hg'
    have e' : g' = g := by simp [Value.ownBlock] at hg'; exact hg'.symm
    subst e'
    rcases hat with e | e
    · exact .inl (hown _ e)
    · refine .inr ⟨?_, hlt⟩
      rw [e]
      simp
      have := hk.size
      omega
  · exact (hB.trans (hk3.below hB.size fun k hk' e => by have := (hrow.lt k e.symm).1; omega)).setCell (p := ⟨w.heap.size, 0, none⟩) (Nat.le_refl _) _

set_option maxRecDepth 100000 in
set_option maxHeartbeats 4000000 in
theorem names_any (a : Option Addr) (cap : Nat) (fs : List Fd) (w : World) (hF : Fds w a cap fs) (hn : fs.length ≤ 1000) (hok : ∀ x ∈ fs, OkF x) :
    CallsIn Fence.wide 0 Try.prog 16 #[.slice a fs.length cap] w fun e W' => ∃ u, e = .returned u ∧ RowW w u (fs.map (·.1)) W' := by
  obtain ⟨iF, hiF, hiF0, hiF1, hiF2⟩ := info_parts info9
  obtain ⟨w1, hw1⟩ : ∃ w1, w.alloc (.cells #[.slice none 0 0] 34) = w1 := ⟨_, rfl⟩
  have hs1 : w1.heap.size = w.heap.size + 1 := by rw [← hw1]; simp
  have hbox0 : Boxed w1 w.heap.size 34 (.slice none 0 0) := by rw [← hw1]; exact Boxed.new w _ _
  have hB1 : Below w.heap.size w w1 := by rw [← hw1]; exact (Below.refl _ w).alloc (Nat.le_refl _) _
  obtain ⟨w2, hw2⟩ : ∃ w2, w1.alloc (.cells #[.slice a fs.length cap] 22) = w2 := ⟨_, rfl⟩
  have hs2 : w2.heap.size = w.heap.size + 2 := by rw [← hw2]; simp; omega
  have hbx : Boxed w2 (w.heap.size + 1) 22 (.slice a fs.length cap) := by rw [← hw2, ← hs1]; exact Boxed.new w1 _ _
  have hbl : Boxed w2 w.heap.size 34 (.slice none 0 0) := by rw [← hw2]; exact hbox0.alloc _
  have hB2 : Below w.heap.size w w2 := by rw [← hw2]; exact hB1.alloc hB1.size _
  have hfi := fields_any a fs.length cap w1
  rw [hw2, hs1] at hfi
  have hD : ∀ b off, a = some ⟨b, off, none⟩ → 0 < fs.length → b < w2.heap.size ∧ b ≠ w.heap.size := fun b off ha h0 => by
    obtain ⟨b', off', ha', hb', -⟩ := hF.get h0
    rw [ha] at ha'
    injection ha' with ha'
    injection ha' with ha'
    omega
  have hseq := seq_false (Dt' := fun k => k < w2.heap.size ∧ k ≠ w.heap.size) (fields_seq (w.heap.size + 1) a cap fs w2 hbx (hF.later hB2) (by omega) hok (fun k => k < w2.heap.size ∧ k ≠ w.heap.size) (fun _ => False) hD) (fun k h => h) (Below.refl _ _)
  have HW1 := Lib.hid hw1
  have HFI := Lib.hid hfi
  have HSQ := Lib.hid hseq
  have HBL := Lib.hid hbl
  have HB2 := Lib.hid hB2
  clear hw1 hw2 hfi hseq hbx hbl hB2 hD hbox0 hB1 hs1
  refine callsIn_of_wp_marks Try.func16 rfl trivial ?_ rfl
  simp only [Try.ntmps16, List.size_toArray, List.length_cons, List.length_nil, Nat.reduceAdd, Nat.reduceSub, Array.replicate_succ, Array.replicate_zero, List.push_toArray, List.append_toArray, List.nil_append, List.cons_append]
  gi_wp2_with (rw [HW1.out]; refine ⟨trivial, rfl, ?_⟩; refine HFI.out.mono ?_; rintro e w3 ⟨rfl, hw3⟩; have HW3 := Lib.hid hw3; clear hw3)
  obtain rfl : w2 = w3 := HW3.out.symm
  refine wpIn_rangeB (gf := 26) (lb := #[.pointer (some ⟨w.heap.size + 1, 0, none⟩)]) rfl (enters_of Try.func26 (by kernel_rfl) rfl) HSQ.out (Below.refl _ _) (fun k h => h.1) (fun k h => h.elim) (fun _ => rfl)
    (LInv 34 9 1 (fun l => wcells (l.map (·.1))) w) (fun _ _ _ _ => False) ?hI (fun _ _ _ _ _ h _ => h) (fun _ _ _ _ _ h => h) ⟨⟨_, HBL.out, World.ownsRow_nil _ _ _ _, by simp [Value.ownBlock]⟩, HB2.out⟩
    (fun _ x a' _ => a' = { tmps := #[.slice a fs.length cap, undef, .slice none 0 0, .pointer (some ⟨w.heap.size, 0, none⟩), .string ⟨x.1.toArray⟩, .slice a fs.length cap, .func (.func 26) #[] #[.pointer (some ⟨w.heap.size + 1, 0, none⟩)], .string ⟨x.1.toArray⟩, .string ⟨x.2.toArray⟩, undef, undef, undef, undef, undef, undef], defers := [] })
    (fun O x a' A C h hk => h) ?assign ?body ?done ?stop
  case hI =>
    rintro O s A C ⟨⟨v, h1, h2, h4⟩, h5⟩ hk
    have own : ∀ k, k < w2.heap.size → IterS (fun _ => False) w2.heap.size O k := fun k h => ⟨id, .inl h⟩
    exact ⟨⟨v, hk.heap h1 (own _ (by omega)), owns_kept h2 hk (fun g hg => ⟨id, .inr (h4 g hg)⟩), h4⟩, h5.trans (hk.below h5.size fun k hk' => own k (by omega))⟩
  case assign =>
    intro O pre x A K hO hA hi hK
    have HK := Lib.hid hK
    have HI := Lib.hid hi
    clear hK hi
    unfold encF
    gi_wp2
    exact HK.out _ _ (Keeps.refl _ _) HI.out rfl
  case body =>
    rintro O pre x a' A hO hA ⟨r, hr⟩ ⟨⟨v, hv, hrow, hown⟩, hB⟩ rfl hlen hT
    obtain ⟨x1, x2⟩ := x
    have HC1 := Lib.hid (fun W => clone_any x1 W (by have := hT.1; simp at this; omega))
    have hzB := hB.size
    have HS0 : A.drew.cell? ⟨w.heap.size, 0, none⟩ = some v := (World.cell?_drew _ _).trans hv.cell
    refine wpIn_block ?_
    dsimp only
    refine wpIn_region_L (S := fun W => W.cell? ⟨w.heap.size, 0, none⟩ = some v) (f := 5) (by kernel_rfl) own_block_no (by kernel_rfl) ?_
    refine wpAnyL_take (i := 0) (some 9) (v := v) rfl rfl (by kernel_rfl) (by kernel_rfl) (by kernel_rfl) (by kernel_rfl) (fun _ _ _ h => h) (by rfl) (fun W hS => ?_) HS0 ?_
    · have m0 := hS
      go_simp
    try simp only [Act.put, List.setIfInBounds_toArray, List.set_cons_zero, List.set_cons_succ]
    refine wpAnyL_take (i := 1) (some 10) (v := .string ⟨x1.toArray⟩) rfl rfl (by kernel_rfl) (by kernel_rfl) (by kernel_rfl) (by kernel_rfl) (fun _ _ _ h => h) (by rfl) (fun W hS => ?_) HS0 ?_
    · have m0 := hS
      go_simp
    try simp only [Act.put, List.setIfInBounds_toArray, List.set_cons_zero, List.set_cons_succ]
    refine wpAnyL_one (j := 2) (by kernel_rfl) rfl (by rfl) (fun K hK => ?_)
    go_simp
    with_reducible refine (HC1.out _).mono ?_
    rintro e w3 ⟨rfl, hb⟩
    have HS1 := cell_next HS0 hb
    have HB1 := Lib.hid hb
    clear hb
    refine hK _ _ (fun _ => HS1) ?_
    clear hK K
    try simp only [Act.put, List.setIfInBounds_toArray, List.set_cons_zero, List.set_cons_succ]
    refine wpAnyL_one (j := 3) (by kernel_rfl) rfl (by rfl) (fun K hK => ?_)
    refine oper_wp_val (v := .slice (some ⟨w3.heap.size, 0, none⟩) 1 1) (w' := w3.alloc (.cells #[.string ⟨x1.toArray⟩] 9)) (by go_simp) ?_
    have hk2 : Keeps (fun _ => True) A w3 := ((Keeps.refl (fun _ => True) A).drew.trans (Keeps.of_below HB1.out fun _ h _ => h))
    have hz2 := hk2.size
    have HO2 := Lib.hid (owns_kept (S := fun _ => True) hrow hk2 fun _ _ => trivial)
    have HK2 := Lib.hid hk2
    have HS3 := cell_next HS1 ((Below.refl _ w3).alloc (Nat.le_refl _) (.cells #[.string ⟨x1.toArray⟩] 9))
    refine hK _ _ (fun _ => HS3) ?_
    clear hK K hk2
    try simp only [Act.put, List.setIfInBounds_toArray, List.set_cons_zero, List.set_cons_succ]
    refine wpAnyL_one (j := 4) (by kernel_rfl) rfl (by rfl) (fun K hK => ?_)
    refine wp_append_lies _ (.tmp 9) (.tmp 12) 34 rfl (w.heap.size + 1) 9 iF _ 1 16 Try.underlying34 hiF hiF0 hiF1 hiF2 rfl (by decide) v pre.length (wcells (pre.map (·.1))) rfl (HO2.out.alloc _) ⟨w3.heap.size, 0, none⟩ 1 1 [.string ⟨x1.toArray⟩] rfl rfl (one_news w3 _ rfl _ _) (by simp [Value.oneCell']) (by decide) (by unfold maxLen; omega) (by omega) (by simp; omega) _ rfl ?_
    intro g cap w4 hown3 hgrow hat hlt3
    have HE := Lib.hid (fun aa => LInvW.round (cells := (fun l => wcells (l.map (·.1)))) (pre := pre) (t := 34) (e := 9) (sz := 1) (x := (x1, x2)) (aa := aa) (Ix := fun _ _ _ _ => False) hv hrow hown hB hO hs2 HK2.out (show (fun l => wcells (l.map (·.1))) (pre ++ [(x1, x2)]) = (fun l => wcells (l.map (·.1))) pre ++ [.string ⟨x1.toArray⟩] by simp [wcells]) hown3 hgrow hat hlt3)
    have hne : some w.heap.size ≠ v.ownBlock := fun e => by have := (hrow.lt _ e.symm).1; omega
    have hv3 : Boxed w4 w.heap.size 34 v := (((HK2.out.mono fun _ _ _ => trivial).alloc _).trans (Keeps.of_grown (S := fun k => some k ≠ v.ownBlock) hgrow fun r e h => h e.symm)).heap hv hne
    have HS4 := hv3.cell
    have f4 := hv3.frozen
    clear hown3 hgrow hat hlt3
    refine hK _ _ (fun _ => HS4) ?_
    clear hK K
    try simp only [Act.put, List.setIfInBounds_toArray, List.set_cons_zero, List.set_cons_succ]
    refine wpAnyL_one (j := 5) (by kernel_rfl) rfl (by rfl) (fun K hK => ?_)
    go_simp
    refine hK _ _ (fun h => (h rfl).elim) ?_
    clear hK K
    try simp only [Act.put, List.setIfInBounds_toArray, List.set_cons_zero, List.set_cons_succ]
    refine wpAnyL_done (by kernel_rfl) ?_ _
    exact HE.out { tmps := #[], defers := [] }
  case done =>
    rintro O D ys A hD hDs hO - rfl ⟨⟨v, hv, hrow, hown⟩, hB⟩ hDd
    have b1 := hv.cell
    have hk : Keeps (fun k => k ≠ D) A (A.putObj D (.deferred none)) := (Keeps.refl _ A).putObj (fun h => h rfl) _
    gi_wp2
    refine ⟨by simp, .inl ⟨_, _, rfl, run_takeDeferred hDd, ?_⟩⟩
    refine ⟨_, results_tmp rfl _ _ _, v, rfl, ?_, hB.trans (hk.below hB.size fun k hk => by omega)⟩
    have := owns_base (owns_kept hrow hk (fun g hg => by have := (hO g (hown g hg)).1; omega)) (show w.heap.size ≤ w.heap.size + 1 by omega)
    simpa using this
  case stop =>
    rintro O D c pre A _ _ _ _ h _ _
    exact h.elim

set_option maxRecDepth 100000 in
set_option maxHeartbeats 4000000 in
theorem vals_any (a : Option Addr) (cap : Nat) (fs : List Fd) (w : World) (hF : Fds w a cap fs) (hn : fs.length ≤ 1000) (hok : ∀ x ∈ fs, OkF x) :
    CallsIn Fence.wide 0 Try.prog 18 #[.slice a fs.length cap] w fun e W' => ∃ u, e = .returned u ∧ RowW w u (fs.map (·.2)) W' := by
  obtain ⟨iF, hiF, hiF0, hiF1, hiF2⟩ := info_parts info9
  obtain ⟨w1, hw1⟩ : ∃ w1, w.alloc (.cells #[.slice none 0 0] 34) = w1 := ⟨_, rfl⟩
  have hs1 : w1.heap.size = w.heap.size + 1 := by rw [← hw1]; simp
  have hbox0 : Boxed w1 w.heap.size 34 (.slice none 0 0) := by rw [← hw1]; exact Boxed.new w _ _
  have hB1 : Below w.heap.size w w1 := by rw [← hw1]; exact (Below.refl _ w).alloc (Nat.le_refl _) _
  obtain ⟨w2, hw2⟩ : ∃ w2, w1.alloc (.cells #[.slice a fs.length cap] 22) = w2 := ⟨_, rfl⟩
  have hs2 : w2.heap.size = w.heap.size + 2 := by rw [← hw2]; simp; omega
  have hbx : Boxed w2 (w.heap.size + 1) 22 (.slice a fs.length cap) := by rw [← hw2, ← hs1]; exact Boxed.new w1 _ _
  have hbl : Boxed w2 w.heap.size 34 (.slice none 0 0) := by rw [← hw2]; exact hbox0.alloc _
  have hB2 : Below w.heap.size w w2 := by rw [← hw2]; exact hB1.alloc hB1.size _
  have hfi := fields_any a fs.length cap w1
  rw [hw2, hs1] at hfi
  have hD : ∀ b off, a = some ⟨b, off, none⟩ → 0 < fs.length → b < w2.heap.size ∧ b ≠ w.heap.size := fun b off ha h0 => by
    obtain ⟨b', off', ha', hb', -⟩ := hF.get h0
    rw [ha] at ha'
    injection ha' with ha'
    injection ha' with ha'
    omega
  have hseq := seq_false (Dt' := fun k => k < w2.heap.size ∧ k ≠ w.heap.size) (fields_seq (w.heap.size + 1) a cap fs w2 hbx (hF.later hB2) (by omega) hok (fun k => k < w2.heap.size ∧ k ≠ w.heap.size) (fun _ => False) hD) (fun k h => h) (Below.refl _ _)
  have HW1 := Lib.hid hw1
  have HFI := Lib.hid hfi
  have HSQ := Lib.hid hseq
  have HBL := Lib.hid hbl
  have HB2 := Lib.hid hB2
  clear hw1 hw2 hfi hseq hbx hbl hB2 hD hbox0 hB1 hs1
  refine callsIn_of_wp_marks Try.func18 rfl trivial ?_ rfl
  simp only [Try.ntmps18, List.size_toArray, List.length_cons, List.length_nil, Nat.reduceAdd, Nat.reduceSub, Array.replicate_succ, Array.replicate_zero, List.push_toArray, List.append_toArray, List.nil_append, List.cons_append]
  gi_wp2_with (rw [HW1.out]; refine ⟨trivial, rfl, ?_⟩; refine HFI.out.mono ?_; rintro e w3 ⟨rfl, hw3⟩; have HW3 := Lib.hid hw3; clear hw3)
  obtain rfl : w2 = w3 := HW3.out.symm
  refine wpIn_rangeB (gf := 26) (lb := #[.pointer (some ⟨w.heap.size + 1, 0, none⟩)]) rfl (enters_of Try.func26 (by kernel_rfl) rfl) HSQ.out (Below.refl _ _) (fun k h => h.1) (fun k h => h.elim) (fun _ => rfl)
    (LInv 34 9 1 (fun l => wcells (l.map (·.2))) w) (fun _ _ _ _ => False) ?hI (fun _ _ _ _ _ h _ => h) (fun _ _ _ _ _ h => h) ⟨⟨_, HBL.out, World.ownsRow_nil _ _ _ _, by simp [Value.ownBlock]⟩, HB2.out⟩
    (fun _ x a' _ => a' = { tmps := #[.slice a fs.length cap, undef, .slice none 0 0, .pointer (some ⟨w.heap.size, 0, none⟩), undef, .string ⟨x.2.toArray⟩, .slice a fs.length cap, .func (.func 26) #[] #[.pointer (some ⟨w.heap.size + 1, 0, none⟩)], .string ⟨x.1.toArray⟩, .string ⟨x.2.toArray⟩, undef, undef, undef, undef, undef, undef], defers := [] })
    (fun O x a' A C h hk => h) ?assign ?body ?done ?stop
  case hI =>
    rintro O s A C ⟨⟨v, h1, h2, h4⟩, h5⟩ hk
    have own : ∀ k, k < w2.heap.size → IterS (fun _ => False) w2.heap.size O k := fun k h => ⟨id, .inl h⟩
    exact ⟨⟨v, hk.heap h1 (own _ (by omega)), owns_kept h2 hk (fun g hg => ⟨id, .inr (h4 g hg)⟩), h4⟩, h5.trans (hk.below h5.size fun k hk' => own k (by omega))⟩
  case assign =>
    intro O pre x A K hO hA hi hK
    have HK := Lib.hid hK
    have HI := Lib.hid hi
    clear hK hi
    unfold encF
    gi_wp2
    exact HK.out _ _ (Keeps.refl _ _) HI.out rfl
  case body =>
    rintro O pre x a' A hO hA ⟨r, hr⟩ ⟨⟨v, hv, hrow, hown⟩, hB⟩ rfl hlen hT
    obtain ⟨x1, x2⟩ := x
    have HC1 := Lib.hid (fun W => clone_any x2 W (by have := hT.2; simp at this; omega))
    have hzB := hB.size
    have HS0 : A.drew.cell? ⟨w.heap.size, 0, none⟩ = some v := (World.cell?_drew _ _).trans hv.cell
    refine wpIn_block ?_
    dsimp only
    refine wpIn_region_L (S := fun W => W.cell? ⟨w.heap.size, 0, none⟩ = some v) (f := 5) (by kernel_rfl) own_block_no (by kernel_rfl) ?_
    refine wpAnyL_take (i := 0) (some 10) (v := v) rfl rfl (by kernel_rfl) (by kernel_rfl) (by kernel_rfl) (by kernel_rfl) (fun _ _ _ h => h) (by rfl) (fun W hS => ?_) HS0 ?_
    · have m0 := hS
      go_simp
    try simp only [Act.put, List.setIfInBounds_toArray, List.set_cons_zero, List.set_cons_succ]
    refine wpAnyL_take (i := 1) (some 11) (v := .string ⟨x2.toArray⟩) rfl rfl (by kernel_rfl) (by kernel_rfl) (by kernel_rfl) (by kernel_rfl) (fun _ _ _ h => h) (by rfl) (fun W hS => ?_) HS0 ?_
    · have m0 := hS
      go_simp
    try simp only [Act.put, List.setIfInBounds_toArray, List.set_cons_zero, List.set_cons_succ]
    refine wpAnyL_one (j := 2) (by kernel_rfl) rfl (by rfl) (fun K hK => ?_)
    go_simp
    with_reducible refine (HC1.out _).mono ?_
    rintro e w3 ⟨rfl, hb⟩
    have HS1 := cell_next HS0 hb
    have HB1 := Lib.hid hb
    clear hb
    refine hK _ _ (fun _ => HS1) ?_
    clear hK K
    try simp only [Act.put, List.setIfInBounds_toArray, List.set_cons_zero, List.set_cons_succ]
    refine wpAnyL_one (j := 3) (by kernel_rfl) rfl (by rfl) (fun K hK => ?_)
    refine oper_wp_val (v := .slice (some ⟨w3.heap.size, 0, none⟩) 1 1) (w' := w3.alloc (.cells #[.string ⟨x2.toArray⟩] 9)) (by go_simp) ?_
    have hk2 : Keeps (fun _ => True) A w3 := ((Keeps.refl (fun _ => True) A).drew.trans (Keeps.of_below HB1.out fun _ h _ => h))
    have hz2 := hk2.size
    have HO2 := Lib.hid (owns_kept (S := fun _ => True) hrow hk2 fun _ _ => trivial)
    have HK2 := Lib.hid hk2
    have HS3 := cell_next HS1 ((Below.refl _ w3).alloc (Nat.le_refl _) (.cells #[.string ⟨x2.toArray⟩] 9))
    refine hK _ _ (fun _ => HS3) ?_
    clear hK K hk2
    try simp only [Act.put, List.setIfInBounds_toArray, List.set_cons_zero, List.set_cons_succ]
    refine wpAnyL_one (j := 4) (by kernel_rfl) rfl (by rfl) (fun K hK => ?_)
    refine wp_append_lies _ (.tmp 10) (.tmp 13) 34 rfl (w.heap.size + 1) 9 iF _ 1 16 Try.underlying34 hiF hiF0 hiF1 hiF2 rfl (by decide) v pre.length (wcells (pre.map (·.2))) rfl (HO2.out.alloc _) ⟨w3.heap.size, 0, none⟩ 1 1 [.string ⟨x2.toArray⟩] rfl rfl (one_news w3 _ rfl _ _) (by simp [Value.oneCell']) (by decide) (by unfold maxLen; omega) (by omega) (by simp; omega) _ rfl ?_
    intro g cap w4 hown3 hgrow hat hlt3
    have HE := Lib.hid (fun aa => LInvW.round (cells := (fun l => wcells (l.map (·.2)))) (pre := pre) (t := 34) (e := 9) (sz := 1) (x := (x1, x2)) (aa := aa) (Ix := fun _ _ _ _ => False) hv hrow hown hB hO hs2 HK2.out (show (fun l => wcells (l.map (·.2))) (pre ++ [(x1, x2)]) = (fun l => wcells (l.map (·.2))) pre ++ [.string ⟨x2.toArray⟩] by simp [wcells]) hown3 hgrow hat hlt3)
    have hne : some w.heap.size ≠ v.ownBlock := fun e => by have := (hrow.lt _ e.symm).1; omega
    have hv3 : Boxed w4 w.heap.size 34 v := (((HK2.out.mono fun _ _ _ => trivial).alloc _).trans (Keeps.of_grown (S := fun k => some k ≠ v.ownBlock) hgrow fun r e h => h e.symm)).heap hv hne
    have HS4 := hv3.cell
    have f4 := hv3.frozen
    clear hown3 hgrow hat hlt3
    refine hK _ _ (fun _ => HS4) ?_
    clear hK K
    try simp only [Act.put, List.setIfInBounds_toArray, List.set_cons_zero, List.set_cons_succ]
    refine wpAnyL_one (j := 5) (by kernel_rfl) rfl (by rfl) (fun K hK => ?_)
    go_simp
    refine hK _ _ (fun h => (h rfl).elim) ?_
    clear hK K
    try simp only [Act.put, List.setIfInBounds_toArray, List.set_cons_zero, List.set_cons_succ]
    refine wpAnyL_done (by kernel_rfl) ?_ _
    exact HE.out { tmps := #[], defers := [] }
  case done =>
    rintro O D ys A hD hDs hO - rfl ⟨⟨v, hv, hrow, hown⟩, hB⟩ hDd
    have b1 := hv.cell
    have hk : Keeps (fun k => k ≠ D) A (A.putObj D (.deferred none)) := (Keeps.refl _ A).putObj (fun h => h rfl) _
    gi_wp2
    refine ⟨by simp, .inl ⟨_, _, rfl, run_takeDeferred hDd, ?_⟩⟩
    refine ⟨_, results_tmp rfl _ _ _, v, rfl, ?_, hB.trans (hk.below hB.size fun k hk => by omega)⟩
    have := owns_base (owns_kept hrow hk (fun g hg => by have := (hO g (hown g hg)).1; omega)) (show w.heap.size ≤ w.heap.size + 1 by omega)
    simpa using this
  case stop =>
    rintro O D c pre A _ _ _ _ h _ _
    exact h.elim
end Go.Proofs.Ytfbfejeccfoioaa
