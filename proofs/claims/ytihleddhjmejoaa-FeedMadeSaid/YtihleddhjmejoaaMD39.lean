/- The contract of the program's copies (15). -/
import Derived.Test.YtihleddhjmejoaaMD38
namespace Go.Proofs.Ytihleddhjmejoaa
open Go.RowKit Go.Shelf
attribute [local go_sem] Oper.semAt_some
set_option linter.unusedVariables false
set_option linter.unusedSimpArgs false

/-- effects in a row that the call owns, all of it from a block on. -/
def RowB (base : Nat) (v : Value) (es : List Le) (W : World) : Prop :=
  W.ownsRow base 61 7 v es.length (es.map Le.cs).flatten ∧ ∀ e ∈ es, e.Ok W ∧ e.it.Far v.ownBlock ∧ ∀ g, g < base → e.it.Far (some g)
theorem RowB.none (base : Nat) (W : World) : RowB base (.slice none 0 0) [] W := ⟨World.ownsRow_nil _ _ _ _, by simp⟩
theorem Li.Ok.from {A C : World} {base : Nat} {p : Li} (h : p.Ok A) (hf : ∀ g, g < base → p.Far (some g)) (hk : Keeps (fun k => base ≤ k) A C) : p.Ok C := by
  refine ⟨h.1, h.2.1.grown (fun h0 b off e hlt => hk.block b hlt ?_) hk.size, h.2.2.1.grown (fun h0 b off e hlt => hk.block b hlt ?_) hk.size, h.2.2.2⟩
  · rcases Nat.lt_or_ge b base with hb | hb
    · exact ((hf b hb).1 h0 b off e rfl).elim
    · exact hb
  · rcases Nat.lt_or_ge b base with hb | hb
    · exact ((hf b hb).2 h0 b off e rfl).elim
    · exact hb
theorem RowB.kept {base : Nat} {v : Value} {es : List Le} {A C : World} (h : RowB base v es A) (hk : Keeps (fun k => base ≤ k) A C) : RowB base v es C :=
  ⟨owns_kept h.1 hk fun g hg => (h.1.lt g hg).1, fun e he => ⟨⟨(h.2 e he).1.1, (h.2 e he).1.2.from (h.2 e he).2.2 hk⟩, (h.2 e he).2⟩⟩
theorem RowB.later {base : Nat} {v : Value} {es : List Le} {A C : World} (h : RowB base v es A) (hb : Below A.heap.size A C) : RowB base v es C := h.kept (Keeps.of_below hb fun k hk _ => hk)
theorem RowB.efs {base : Nat} {v : Value} {es : List Le} {W : World} (h : RowB base v es W) : ∃ a cap, v = .slice a es.length cap ∧ Efs W a cap es ∧ (a = Option.none → cap = 0) := by
  obtain ⟨a, cap, hv, hr, hn, -⟩ := rows_of_own (css := es.map Le.cs) (by simpa using h.1) (fun c hc => by obtain ⟨p, -, rfl⟩ := List.mem_map.1 hc; rfl)
  exact ⟨a, cap, by simpa using hv, ⟨hr, fun p hp => (h.2 p hp).1⟩, hn⟩
theorem RowB.append {base : Nat} {W w1 : World} {v : Value} {g cap : Nat} {es : List Le} {e : Le} {o : Obj} (h : RowB base v es W) (h1 : w1.ownsRow base 61 7 (.slice (some ⟨g, 0, Option.none⟩) (es.length + 1) cap) (es.length + 1) ((es.map Le.cs).flatten ++ e.cs))
    (hg : (W.alloc o).grownBy w1 v.ownBlock) (hat : v.ownBlock = some g ∨ g = (W.alloc o).heap.size) (he : e.Ok W) (hf : e.it.Far v.ownBlock) (hfb : ∀ k, k < base → e.it.Far (some k)) : RowB base (.slice (some ⟨g, 0, Option.none⟩) (es.length + 1) cap) (es ++ [e]) w1 := by
  have hK := Keeps.of_grown (S := fun k => some k ≠ v.ownBlock) hg fun r e h => h e.symm
  have hbA : Below W.heap.size W (W.alloc o) := (Below.refl _ W).alloc (Nat.le_refl _) o
  have hkp : ∀ b, b < W.heap.size → some b ≠ v.ownBlock → w1.heap[b]? = W.heap[b]? := fun b hb hne => by
    have h1 := hK.block b (Nat.lt_of_lt_of_le hb hbA.size) hne
    exact h1.trans (hbA.block b hb)
  have hsz : W.heap.size ≤ w1.heap.size := Nat.le_trans hbA.size hK.size
  have hfar : ∀ p : Li, p.Ok W → p.Far v.ownBlock → p.Far (some g) := fun p hp hpf => by
    rcases hat with hat | hat
    · rw [← hat]; exact hpf
    · exact hp.far (by rw [hat]; exact hbA.size)
  have hall : ∀ p ∈ es ++ [e], p.Ok W ∧ p.it.Far v.ownBlock ∧ ∀ k, k < base → p.it.Far (some k) := fun p hp => by
    rcases List.mem_append.1 hp with hp | hp
    · exact h.2 p hp
    · rw [List.mem_singleton.1 hp]; exact ⟨he, hf, hfb⟩
  refine ⟨by simpa using h1, fun p hp => ?_⟩
  obtain ⟨hp1, hp2, hp3⟩ := hall p hp
  exact ⟨⟨hp1.1, hp1.2.grown hp2 hkp hsz⟩, hfar p.it hp1.2 hp2, hp3⟩
/-- the collector's box (in block Bb), its row, the box of how many. -/
def CpI (w : World) (most : Nat) (base : Nat) (O : Nat → Prop) (pre : List Le) (W : World) : Prop :=
  (∃ v out, Boxed W (w.heap.size + 1) 24 v ∧ RowB base v out W ∧ out.map Le.e = pre.map Le.e ∧ ∀ g, v.ownBlock = some g → O g) ∧ Boxed W w.heap.size 3 (.int .i64 (most : Int)) ∧ Below w.heap.size w W
/-- .. behind a break. -/
def CpX (w : World) (most : Nat) (base : Nat) (c : Code) (O : Nat → Prop) (s : List Le) (W : World) : Prop :=
  c = .exit 0 ∧ ∃ pre x, s = pre ++ [x] ∧ pre.length = most ∧ CpI w most base O pre W
theorem CpI.kept {w A C : World} {most base : Nat} {O : Nat → Prop} {pre : List Le} (h : CpI w most base O pre A) (hb : w.heap.size + 3 ≤ base) (hk : Keeps (fun k => k ≠ base - 1) A C) : CpI w most base O pre C := by
  obtain ⟨⟨v, out, h1, h2, h3, h4⟩, h5, h6⟩ := h
  exact ⟨⟨v, out, hk.heap h1 (by omega), h2.kept (hk.mono fun k _ h => by omega), h3, h4⟩, hk.heap h5 (by omega), h6.trans (hk.below h6.size fun k hk => by omega)⟩
theorem loop_noCell {A : World} {B : Nat} {r : Loop} (h : A.heap[B]? = some (.loop r)) (o : Nat) : A.cell? ⟨B, o, none⟩ = none := by simp [World.cell?, h]
theorem OkE.kept {x : Le} {A C : World} {B : Nat} (hr : ∃ r, A.heap[B]? = some (.loop r)) (h : OkE x A) (hk : Keeps (fun k => k ≠ B) A C) : OkE x C := by
  obtain ⟨r, hr⟩ := hr
  have hf : x.it.Far (some B) := by
    refine ⟨fun h0 g k e he => ?_, fun h0 g k e he => ?_⟩
    · cases he
      obtain ⟨b', o', e', hlt, hc⟩ := h.1.2.2.1.get (List.length_pos_iff.2 h0)
      rw [e] at e'; cases e'
      have := (hc 0 (List.length_pos_iff.2 h0)).1
      rw [loop_noCell hr] at this
      cases this
    · cases he
      obtain ⟨b', o', e', hlt, hc⟩ := h.1.2.2.2.1.get (List.length_pos_iff.2 h0)
      rw [e] at e'; cases e'
      have := hc 0 (List.length_pos_iff.2 h0)
      rw [loop_noCell hr] at this
      cases this
  exact ⟨⟨h.1.1, h.1.2.grown hf (fun b hb hne => hk.block b hb (fun e => hne (by rw [e]))) hk.size⟩, h.2⟩
/-- one more in the box's row. -/
theorem cp_end {w A w1 : World} {most base b : Nat} {O : Nat → Prop} {pre : List Le} {x : Le} {v v' : Value} {out : List Le} {e' : Le} (hm : out.map Le.e = pre.map Le.e)
    (hown : ∀ g, v.ownBlock = some g → O g) (hB : Below w.heap.size w A) (hO : ∀ k, O k → b + 2 ≤ k ∧ k < A.heap.size) (hbase : base = b + 2) (hb : w.heap.size + 2 ≤ b) (hbA : base ≤ A.heap.size)
    (hbx : Boxed A (w.heap.size + 1) 24 v) (hmo : Boxed A w.heap.size 3 (.int .i64 (most : Int))) (hbl : ∀ g, v.ownBlock = some g → base ≤ g)
    (hk : Keeps (fun k => some k ≠ v.ownBlock) A w1) (hR : RowB base v' (out ++ [e']) w1) (he : e'.e = x.e) (hat : ∀ g, v'.ownBlock = some g → v.ownBlock = some g ∨ A.heap.size ≤ g) :
    Keeps (RoundS (fun k => k < w.heap.size) (fun _ => False) b O) A (w1.setCell ⟨w.heap.size + 1, 0, none⟩ v') ∧ ∃ O', Grows O O' A (w1.setCell ⟨w.heap.size + 1, 0, none⟩ v') ∧
      CpI w most base O' (pre ++ [x]) (w1.setCell ⟨w.heap.size + 1, 0, none⟩ v') := by
  have hne : some (w.heap.size + 1) ≠ v.ownBlock := fun e => by have := hbl _ e.symm; omega
  have hv1 : Boxed w1 (w.heap.size + 1) 24 v := hk.heap hbx hne
  have hm1 : Boxed w1 w.heap.size 3 (.int .i64 (most : Int)) := hk.heap hmo (fun e => by have := hbl _ e.symm; omega)
  have hsz := hk.size
  refine ⟨?_, fun k => O k ∨ (A.heap.size ≤ k ∧ k < w1.heap.size), ?_, ⟨v', out ++ [e'], hv1.set _, hR.kept ((Keeps.refl _ _).setCell (.inr (by simp only; omega)) _), ?_, ?_⟩, ?_, ?_⟩
  · refine (hk.mono ?_).setCell (.inr ?_) _
    · rintro k hkA h e
      have hg := hO k (hown k e.symm)
      rcases h with h | h | h
      · omega
      · exact h
      · exact h.2 (hown k e.symm)
    · rintro (h | h | h)
      · simp only at h; omega
      · exact h
      · have := h.1; simp only at this; omega
  · rintro k (h | h)
    · exact ⟨by simp; exact Nat.lt_of_lt_of_le (hO k h).2 hk.size, .inl h⟩
    · exact ⟨by simp; exact h.2, .inr h.1⟩
  · rw [List.map_append, List.map_append, hm]
    simp [he]
  · intro g hg
    rcases hat g hg with e | e
    · exact .inl (hown g e)
    · exact .inr ⟨e, (hR.1.lt g hg).2⟩
  · exact (Below.heap_setCell _ _ _ _ (by simp only; omega)).trans hm1
  · exact (hB.trans (hk.below hB.size fun k hk' e => by have := hbl k e.symm; omega)).setCell (p := ⟨w.heap.size + 1, 0, none⟩) (by simp only; omega) _

/-- effects in memory made since. -/
def EfX (qs : List Db.E) (w : World) (e : Ending) (W : World) : Prop := ∃ a cap es, e = .returned (.slice a es.length cap) ∧ Efs W a cap es ∧ (a = none → cap = 0) ∧ es.map Le.e = qs ∧ Below w.heap.size w W ∧ (∀ b o, a = some ⟨b, o, none⟩ → w.heap.size ≤ b) ∧ ∀ e ∈ es, ∀ g, g < w.heap.size → e.it.Far (some g)
theorem EfX.out {qs : List Db.E} {w W : World} {e : Ending} (h : EfX qs w e W) : EfOut qs w e W := by
  obtain ⟨a, cap, es, h1, h2, h3, h4, h5, -⟩ := h
  exact ⟨a, cap, es, h1, h2, h3, h4, h5⟩
theorem RowB.fresh {base n : Nat} {a : Option Addr} {m cap : Nat} {es : List Le} {W : World} (h : RowB base (.slice a m cap) es W) (hn : n ≤ base) : (∀ b o, a = some ⟨b, o, Option.none⟩ → n ≤ b) ∧ ∀ e ∈ es, ∀ g, g < n → e.it.Far (some g) :=
  ⟨fun b o e => by
    subst e
    exact Nat.le_trans hn (h.1.lt b rfl).1, fun e he g hg => (h.2 e he).2.2 g (by omega)⟩

set_option maxRecDepth 100000 in
set_option maxHeartbeats 4000000 in
theorem copies_new (B : Nat) (f : Fe) (off : Int) (most : Nat) (w : World) (hB : FeBox w B f) (hO : Boxed w (B + 1) 3 (.int .i64 off)) (hok : f.Ok w) (hsm : f.Sm) (ho0 : -1000 ≤ off) (ho1 : off ≤ 2305843009213693952) (hmo : most ≤ 1000) :
    Calls Try.prog 35 #[afterV B, .int .i64 (most : Int)] w (EfX (((f.es.drop (off - (f.off - (f.es.length : Int))).toNat).take most).map Le.e) w) := by
  obtain ⟨iE, hiE, hiE0, hiE1, hiE2⟩ := info_parts infoE
  refine (callsIn_wide (n := 0)).1 ?_
  obtain ⟨w1, hw1⟩ : ∃ w1, w.alloc (.cells #[.int .i64 (most : Int)] 3) = w1 := ⟨_, rfl⟩
  have hs1 : w1.heap.size = w.heap.size + 1 := by rw [← hw1]; simp
  have hm1 : Boxed w1 w.heap.size 3 (.int .i64 (most : Int)) := by rw [← hw1]; exact Boxed.new w 3 _
  have hb1 : Below w.heap.size w w1 := by rw [← hw1]; exact (Below.refl _ w).alloc (Nat.le_refl _) _
  obtain ⟨w2, hw2⟩ : ∃ w2, w1.alloc (.cells #[.slice none 0 0] 24) = w2 := ⟨_, rfl⟩
  have hs2 : w2.heap.size = w.heap.size + 2 := by rw [← hw2]; simp; omega
  have hb2 : Below w1.heap.size w1 w2 := by rw [← hw2]; exact (Below.refl _ w1).alloc (Nat.le_refl _) _
  have hx2 : Boxed w2 (w.heap.size + 1) 24 (.slice none 0 0) := by rw [← hw2, ← hs1]; exact Boxed.new w1 _ _
  have hm2 : Boxed w2 w.heap.size 3 (.int .i64 (most : Int)) := (hb2.block _ (by omega)).trans hm1
  have hBw : Below w.heap.size w w2 := hb1.trans (hb2.mono (by omega))
  have HSQ := Lib.hid (after_seq B f off w hB hO hok hsm ho0 ho1)
  have HW : Hid ((w.alloc (.cells #[.int .i64 (most : Int)] 3)).alloc (.cells #[.slice none 0 0] 24) = w2) := Lib.hid (by rw [hw1, hw2])
  have HBX := Lib.hid hx2
  have HMO := Lib.hid hm2
  have HBW := Lib.hid hBw
  have hfl : f.es.length ≤ 1000 := hsm.2.1
  clear hw1 hm1 hb1 hw2 hb2 hx2 hm2 hBw hB hO hok hsm ho0 ho1 hs1
  unfold afterV
  refine callsIn_of_wp_marks Try.func35 rfl trivial ?_ rfl
  simp only [Try.ntmps35, List.size_toArray, List.length_cons, List.length_nil, Nat.reduceAdd, Nat.reduceSub, Array.replicate_succ, Array.replicate_zero, List.push_toArray, List.append_toArray, List.nil_append, List.cons_append]
  gi_wp2
  rw [HW.out]
  clear HW
  obtain ⟨D, hD⟩ : ∃ D, f.es.drop (off - (f.off - (f.es.length : Int))).toNat = D := ⟨_, rfl⟩
  rw [hD] at HSQ
  obtain ⟨nE, hnE⟩ : ∃ nE, f.es.length = nE := ⟨_, rfl⟩
  rw [hnE] at HSQ hfl
  have HD := Lib.hid hD
  clear hD hnE
  refine wpIn_rangeK (gf := 55) (lb := #[.pointer (some ⟨B + 1, 0, none⟩), .pointer (some ⟨B, 0, none⟩)]) rfl (enters_of Try.func55 (by kernel_rfl) rfl) HSQ.out HBW.out (fun k h => by omega) (fun _ => rfl)
    (fun O pre A => pre.length ≤ most ∧ CpI w most (w2.heap.size + 2) O pre A) (CpX w most (w2.heap.size + 2)) ?hI ?hIx (fun x A C hr h hk => OkE.kept hr h hk) ?h0
    (fun O x a' A => ∃ b6, a' = { tmps := #[.func (.func 55) #[] #[.pointer (some ⟨B + 1, 0, none⟩), .pointer (some ⟨B, 0, none⟩)], .int .i64 (most : Int), undef, .pointer (some ⟨w.heap.size, 0, none⟩), .slice none 0 0, .pointer (some ⟨w.heap.size + 1, 0, none⟩), .pointer (some ⟨b6, 0, none⟩), .func (.func 55) #[] #[.pointer (some ⟨B + 1, 0, none⟩), .pointer (some ⟨B, 0, none⟩)], x.v, undef, undef, undef, undef, undef, undef, undef, undef, undef, undef], defers := [] } ∧ EffBox A b6 x ∧ w2.heap.size + 2 ≤ b6 ∧ ¬ O b6) ?hAx ?assign ?body ?done ?stop
  case hI =>
    rintro O s A C ⟨h0, h⟩ hk
    exact ⟨h0, h.kept (by omega) (by simpa using hk)⟩
  case hIx =>
    rintro c O s A C ⟨h0, pre, x, h1, h2, h⟩ hk
    exact ⟨h0, pre, x, h1, h2, h.kept (by omega) (by simpa using hk)⟩
  case h0 => exact ⟨Nat.zero_le _, ⟨_, [], HBX.out, RowB.none _ _, rfl, fun g h => (by cases h)⟩, HMO.out, HBW.out⟩
  case hAx =>
    rintro O x a' A C ⟨b6, h1, h2, h3, h4⟩ hk
    exact ⟨b6, h1, hk.heap h2 (by omega), h3, h4⟩
  case assign =>
    intro O pre x A K hO hA hi hK
    have HK := Lib.hid hK
    have HI := Lib.hid hi
    obtain ⟨A1, hA1⟩ : ∃ A1, A.alloc (.cells #[.string ⟨x.key.toArray⟩, .bool x.gone, .int .i64 x.it.k, .string ⟨x.it.s.toArray⟩, .slice x.it.aF x.it.fs.length x.it.cF, .slice x.it.aL x.it.ws.length x.it.cL, .int .i64 x.it.x] 61) = A1 := ⟨_, rfl⟩
    have HX : Hid (EffBox A1 A.heap.size x) := Lib.hid (by rw [← hA1]; exact EffBox.new A x)
    have HKA : Hid (Keeps (fun _ => True) A A1) := Lib.hid (by rw [← hA1]; exact (Keeps.refl _ _).alloc _)
    have HO := Lib.hid hO
    have HA1 := Lib.hid hA1
    clear hK hi hA1 hO
    unfold encE Le.v at *
    gi_wp2
    rw [HA1.out]
    exact HK.out _ _ HKA.out ⟨HI.out.1, HI.out.2.kept (by omega) (HKA.out.mono fun _ _ _ => trivial)⟩ ⟨A.heap.size, rfl, HX.out, hA, fun h => by have := (HO.out _ h).2; omega⟩
  case body =>
    rintro O pre x a' A hO hA ⟨r, hr⟩ ⟨hpl, ⟨v, out, hv, hrow, hmp, hown⟩, hmo2, hB2⟩ ⟨b6, rfl, hx6, hb6, hn6⟩ hlen hT
    have hol : out.length = pre.length := by have := congrArg List.length hmp; simpa using this
    obtain ⟨a, cap, rfl, -, -⟩ := hrow.efs
    have hbl := hv.lt
    have c5 := hv.cell
    have c3 := hmo2.cell
    have HV := Lib.hid hv
    have HMO2 := Lib.hid hmo2
    have HROW := Lib.hid hrow
    have HMP := Lib.hid hmp
    have HOWN := Lib.hid hown
    have HB2 := Lib.hid hB2
    have HX6 := Lib.hid hx6
    have HO := Lib.hid hO
    have hzB := hB2.size
    have HT := Lib.hid hT
    clear hv hmo2 hrow hmp hown hB2 hx6 hO hT hr
    refine wpIn_block ?_
    try dsimp only
    by_cases hbk : out.length = most
    · have HOL := Lib.hid hol
      clear hol hpl
      subst hbk
      gi_wp2
      show ownPostT _ O _ _ _ A (.exit 0) _ A
      exact ⟨Keeps.refl _ _, O, fun k hk => ⟨(HO.out k hk).2, .inl hk⟩, rfl, pre, x, rfl, HOL.out.symm, ⟨_, out, HV.out, HROW.out, HMP.out, HOWN.out⟩, HMO2.out, HB2.out⟩
    · have hne : ¬ (out.length : Int) = (most : Int) := by omega
      have hbe : ((out.length : Int) == (most : Int)) = false := by simpa using hne
      have HPL : Hid (pre.length + 1 ≤ most) := Lib.hid (by omega)
      have hln : out.length ≤ 1000 := by omega
      clear hol hbk hpl
      gi_wp2
      have HS0 : A.drew.cell? ⟨w.heap.size + 1, 0, none⟩ = some (.slice a out.length cap) ∧ EffBox A.drew b6 x := ⟨(World.cell?_drew _ _).trans c5, HX6.out⟩
      refine wpIn_region_L (S := fun W => W.cell? ⟨w.heap.size + 1, 0, none⟩ = some (.slice a out.length cap) ∧ EffBox W b6 x) (f := 5) (by kernel_rfl) own_block_noK (by kernel_rfl) ?_
      refine wpAnyL_take (i := 0) (some 13) (v := .slice a out.length cap) rfl rfl (by kernel_rfl) (by kernel_rfl) (by kernel_rfl) (by kernel_rfl) (fun _ _ _ h => h) (by rfl) (fun W hS => ?_) HS0 ?_
      · have m0 := hS.1
        go_simp
      try simp only [Act.put, List.setIfInBounds_toArray, List.set_cons_zero, List.set_cons_succ]
      refine wpAnyL_take (i := 1) (some 14) (v := x.v) rfl rfl (by kernel_rfl) (by kernel_rfl) (by kernel_rfl) (by kernel_rfl) (fun _ _ _ h => h) (by rfl) (fun W hS => ?_) HS0 ?_
      · obtain ⟨⟨m0, m1, m2, m3, m4, m5, m6⟩, -⟩ := hS.2.at
        unfold Le.v
        go_simp
      try simp only [Act.put, List.setIfInBounds_toArray, List.set_cons_zero, List.set_cons_succ]
      have hokA : x.Ok A.drew := ⟨HT.out.1.1, HT.out.1.2.later (Below.refl _ A).drew⟩
      have HC := Lib.hid (copied_any x A.drew hokA HT.out.2)
      clear hokA
      refine wpAnyL_one (j := 2) (by kernel_rfl) rfl (by rfl) (fun K hK => ?_)
      go_simp
      refine HC.out.mono ?_
      rintro e w3 ⟨e', rfl, hee, hok3, hb, hnew⟩
      have hbA : Below A.heap.size A w3 := (Below.refl _ A).drew.trans hb
      have HS1 : w3.cell? ⟨w.heap.size + 1, 0, none⟩ = some (.slice a out.length cap) ∧ EffBox w3 b6 x := ⟨(hb.cell (p := ⟨w.heap.size + 1, 0, none⟩) hbl).trans HS0.1, (hb.block _ HS0.2.lt).trans HS0.2⟩
      have HNEW : Hid (∀ g, g < A.heap.size → e'.it.Far (some g)) := Lib.hid hnew
      have HBA := Lib.hid hbA
      have HOK3 := Lib.hid hok3
      have HEE := Lib.hid hee
      have hz3 := hbA.size
      clear hb hnew hok3 hee hbA
      refine hK _ _ (fun _ => HS1) ?_
      clear hK K
      try simp only [Act.put, List.setIfInBounds_toArray, List.set_cons_zero, List.set_cons_succ]
      refine wpAnyL_one (j := 3) (by kernel_rfl) rfl (by rfl) (fun K hK => ?_)
      refine oper_wp_val (v := .slice (some ⟨w3.heap.size, 0, none⟩) 1 1) (w' := w3.alloc (.cells #[.string ⟨e'.key.toArray⟩, .bool e'.gone, .int .i64 e'.it.k, .string ⟨e'.it.s.toArray⟩, .slice e'.it.aF e'.it.fs.length e'.it.cF, .slice e'.it.aL e'.it.ws.length e'.it.cL, .int .i64 e'.it.x] 61)) (by unfold Le.v; go_simp) ?_
      have HS3 : (w3.alloc (.cells #[.string ⟨e'.key.toArray⟩, .bool e'.gone, .int .i64 e'.it.k, .string ⟨e'.it.s.toArray⟩, .slice e'.it.aF e'.it.fs.length e'.it.cF, .slice e'.it.aL e'.it.ws.length e'.it.cL, .int .i64 e'.it.x] 61)).cell? ⟨w.heap.size + 1, 0, none⟩ = some (.slice a out.length cap) ∧ EffBox (w3.alloc (.cells #[.string ⟨e'.key.toArray⟩, .bool e'.gone, .int .i64 e'.it.k, .string ⟨e'.it.s.toArray⟩, .slice e'.it.aF e'.it.fs.length e'.it.cF, .slice e'.it.aL e'.it.ws.length e'.it.cL, .int .i64 e'.it.x] 61)) b6 x := ⟨(World.cell?_alloc_lt w3 _ ⟨w.heap.size + 1, 0, none⟩ (World.block_lt_of_cell? _ _ HS1.1)).trans HS1.1, (Below.heap_alloc _ _ _ HS1.2.lt).trans HS1.2⟩
      refine hK _ _ (fun _ => HS3) ?_
      clear hK K
      try simp only [Act.put, List.setIfInBounds_toArray, List.set_cons_zero, List.set_cons_succ]
      have HR3 := Lib.hid (HROW.out.later HBA.out)
      refine wpAnyL_one (j := 4) (by kernel_rfl) rfl (by rfl) (fun K hK => ?_)
      refine wp_append_lies _ (.tmp 13) (.tmp 16) 24 rfl (w2.heap.size + 2) 61 iE _ 7 104 Try.underlying24 hiE hiE0 hiE1 hiE2 rfl (by decide) (.slice a out.length cap) out.length ((out.map Le.cs).flatten) rfl (HR3.out.1.alloc _) ⟨w3.heap.size, 0, none⟩ 1 1 e'.cs rfl rfl (row_news w3 _ rfl _ _) (Le.cs_one e') (by decide) (by unfold maxLen; omega) (by omega) (by simp; omega) _ rfl ?_
      intro g cp w4 hown4 hgrow hat hlt3
      obtain ⟨ov, hov⟩ : ∃ ov, (Value.slice a out.length cap).ownBlock = ov := ⟨_, rfl⟩
      have HBL : Hid (∀ g, ov = some g → w2.heap.size + 2 ≤ g ∧ g < A.heap.size ∧ O g) := Lib.hid fun g e => by
        have := HROW.out.1.lt g (by rw [hov]; exact e)
        exact ⟨this.1, this.2, HOWN.out g (by rw [hov]; exact e)⟩
      have hk4 : Keeps (fun k => some k ≠ ov) A w4 := ((Keeps.of_below HBA.out (fun _ hk _ => hk)).alloc _).trans (Keeps.of_grown (S := fun k => some k ≠ ov) hgrow fun r e h => h (by rw [← hov]; exact e.symm))
      have hfo : e'.it.Far ov := by
        cases ho : ov with
        | none => exact ⟨fun _ g k _ e => (by cases e), fun _ g k _ e => (by cases e)⟩
        | some g => exact HNEW.out g (HBL.out g ho).2.1
      have hR4 := RowB.append (e := e') HR3.out hown4 hgrow hat HOK3.out (by rw [hov]; exact hfo) (fun k hk => HNEW.out k (by omega))
      have h5ne : some (w.heap.size + 1) ≠ ov := fun e => by have := (HBL.out _ e.symm).1; omega
      have h6ne : some b6 ≠ ov := fun e => hn6 (HBL.out _ e.symm).2.2
      have hv4 : Boxed w4 (w.heap.size + 1) 24 (.slice a out.length cap) := hk4.heap HV.out h5ne
      have HS4 : w4.cell? ⟨w.heap.size + 1, 0, none⟩ = some (.slice a out.length cap) ∧ EffBox w4 b6 x := ⟨hv4.cell, hk4.heap HX6.out h6ne⟩
      have f4 := hv4.frozen
      have HE := Lib.hid (cp_end (w := w) (most := most) (base := w2.heap.size + 2) (b := w2.heap.size) (O := O) (pre := pre) (x := x) (v := .slice a out.length cap) (e' := e') HMP.out HOWN.out HB2.out HO.out rfl (by omega) hA HV.out HMO2.out (fun g e => (HBL.out g (by rw [← hov]; exact e)).1) (by rw [hov]; exact hk4) hR4 HEE.out (fun k e => by
        have e2 : g = k := by simpa [Value.ownBlock] using e
        subst e2
        rcases hat with h | h
        · exact .inl h
        · exact .inr (by rw [h]; simp; omega)))
      clear hown4 hgrow hat hlt3 hk4 hfo hR4 hv4 hov
      refine hK _ _ (fun _ => HS4) ?_
      clear hK K
      try simp only [Act.put, List.setIfInBounds_toArray, List.set_cons_zero, List.set_cons_succ]
      have m4 := HS4.1
      refine wpAnyL_one (j := 5) (by kernel_rfl) rfl (by rfl) (fun K hK => ?_)
      go_simp
      refine hK _ _ (fun h => (h rfl).elim) ?_
      clear hK K
      try simp only [Act.put, List.setIfInBounds_toArray, List.set_cons_zero, List.set_cons_succ]
      refine wpAnyL_done (by kernel_rfl) ?_ _
      obtain ⟨r1, O', r2, r3⟩ := HE.out
      exact ⟨r1, O', r2, by rw [List.length_append]; exact HPL.out, r3⟩
  case done =>
    rintro O D0 xs A hDl hDs hO hSx ⟨hpl, ⟨v, out, hv, hrow, hmp, hown⟩, hmo2, hB2⟩ hDd
    subst hSx
    obtain ⟨a, cap, rfl, hef, hnn⟩ := hrow.efs
    have b5 := hv.cell
    have hk : Keeps (fun k => k ≠ D0) A (A.putObj D0 (.deferred none)) := (Keeps.refl _ A).putObj (fun h => h rfl) _
    have hb : Below w.heap.size w (A.putObj D0 (.deferred none)) := hB2.trans (hk.below hB2.size fun k hk => by omega)
    have hT : KeepsT A (A.putObj D0 (.deferred none)) := KeepsT.of_keeps hk (by rintro ⟨o, s, e⟩; simp [World.cell?, hDd] at e)
    have HF : Hid (EfX (((f.es.drop (off - (f.off - (f.es.length : Int))).toNat).take most).map Le.e) w (.returned (.slice a out.length cap)) (A.putObj D0 (.deferred none))) :=
      Lib.hid ⟨a, cap, out, rfl, hef.keepT hT, hnn, by rw [hmp, HD.out, List.take_of_length_le hpl], hb, hrow.fresh (by omega)⟩
    clear hk hb hT hef hrow hmp hown hmo2 hB2 hv hpl
    gi_wp2
    refine ⟨by simp, .inl ⟨_, _, rfl, run_takeDeferred hDd, ?_⟩⟩
    refine ⟨_, results_tmp rfl _ _ _, ?_⟩
    exact HF.out
  case stop =>
    rintro O D0 c s A hDl hDs hO hSp ⟨rfl, pre, x, rfl, hpm, ⟨v, out, hv, hrow, hmp, hown⟩, hmo2, hB2⟩ hDd
    obtain ⟨a, cap, rfl, hef, hnn⟩ := hrow.efs
    have b5 := hv.cell
    have hk : Keeps (fun k => k ≠ D0) A (A.putObj D0 (.deferred none)) := (Keeps.refl _ A).putObj (fun h => h rfl) _
    have hb : Below w.heap.size w (A.putObj D0 (.deferred none)) := hB2.trans (hk.below hB2.size fun k hk => by omega)
    have hT : KeepsT A (A.putObj D0 (.deferred none)) := KeepsT.of_keeps hk (by rintro ⟨o, s, e⟩; simp [World.cell?, hDd] at e)
    have htk : D.take most = pre := by
      obtain ⟨t, ht⟩ := hSp
      rw [← ht, List.append_assoc, List.take_append_of_le_length (by omega), List.take_of_length_le (by omega)]
    have HF : Hid (EfX (((f.es.drop (off - (f.off - (f.es.length : Int))).toNat).take most).map Le.e) w (.returned (.slice a out.length cap)) (A.putObj D0 (.deferred none))) :=
      Lib.hid ⟨a, cap, out, rfl, hef.keepT hT, hnn, by rw [hmp, HD.out, htk], hb, hrow.fresh (by omega)⟩
    clear hk hb hT hef hrow hmp hown hmo2 hB2 hv hSp hpm htk
    refine wpIn_exit ?_
    simp only [Exit.inBlock, Exit.then, if_true]
    gi_wp2
    refine ⟨by simp, .inl ⟨_, _, rfl, run_takeDeferred hDd, ?_⟩⟩
    refine ⟨_, results_tmp rfl _ _ _, ?_⟩
    exact HF.out
theorem copies_any (B : Nat) (f : Fe) (off : Int) (most : Nat) (w : World) (hB : FeBox w B f) (hO : Boxed w (B + 1) 3 (.int .i64 off)) (hok : f.Ok w) (hsm : f.Sm) (ho0 : -1000 ≤ off) (ho1 : off ≤ 2305843009213693952) (hmo : most ≤ 1000) :
    Calls Try.prog 35 #[afterV B, .int .i64 (most : Int)] w (EfOut (((f.es.drop (off - (f.off - (f.es.length : Int))).toNat).take most).map Le.e) w) :=
  (copies_new B f off most w hB hO hok hsm ho0 ho1 hmo).mono fun _ _ h => h.out
end Go.Proofs.Ytihleddhjmejoaa
