/- The contract of 'joined': whatever parts come one by one, it hands out their runs. -/
import Derived.Test.YtchladbjhodkoaaSeqVal
namespace Go.Proofs.Ytchladbjhodkoaa
open Go.RowKit Go.Shelf
attribute [local go_sem] Oper.semAt_some

set_option maxHeartbeats 1000000 in
theorem joined_any (gf : Nat) (lb : Array Value) (w : World) :
    CallsIn Fence.wide 0 Try.prog 59 #[.func (.func gf) #[] lb] w fun e w' =>
      e = .returned (.func (.func 73) #[] #[.pointer (some ⟨w.heap.size, 0, none⟩)]) ∧ w' = w.alloc (.cells #[.func (.func gf) #[] lb] 83) := by
  refine callsIn_of_wp Try.func59 rfl trivial ?_ rfl
  simp only [Try.ntmps59, List.size_toArray, List.length_cons, List.length_nil, Nat.reduceAdd, Nat.reduceSub, Array.replicate_succ, Array.replicate_zero, List.push_toArray, List.append_toArray, List.nil_append, List.cons_append]
  gi_wp2
  go_ret
  exact ⟨rfl, rfl⟩

/-- what the open run's cells hold. -/
def runS (o : Option Sp.V) : Sp.S := match o with | none => (0, 0) | some r => r.1

/-- between two parts: joined's own three variables, and the caller's invariant. -/
def JInv (B l : Nat) (J : (Nat → Prop) → List Sp.V → World → Prop) (O : Nat → Prop) (pre : List Sp.V) (A : World) : Prop :=
  A.heap[B]? = some (.cells #[.func (.yield l) #[] #[]] 105 (0, 0)) ∧
  A.heap[B + 1]? = some (.cells #[.int .i64 (runS (Sp.jst pre).2).1, .int .i64 (runS (Sp.jst pre).2).2] 51 (0, 0)) ∧
  A.heap[B + 1 + 1]? = some (.cells #[.bool (Sp.jst pre).2.isSome] 4 (0, 0)) ∧
  (∀ k, O k → B + 5 ≤ k) ∧ J O (Sp.jst pre).1 A

/-- two stores into a block of two cells. -/
theorem heap_two {A : World} {b t : Nat} {x y : Value} (h : A.heap[b]? = some (.cells #[x, y] t (0, 0))) (u v : Value) : ((A.setCell ⟨b, 0, none⟩ u).setCell ⟨b, 1, none⟩ v).heap[b]? = some (.cells #[u, v] t (0, 0)) := by
  simp [World.setCell, Array.getElem?_modify, h]
theorem heap_snd {A : World} {b t : Nat} {x y : Value} (h : A.heap[b]? = some (.cells #[x, y] t (0, 0))) (v : Value) : (A.setCell ⟨b, 1, none⟩ v).heap[b]? = some (.cells #[x, v] t (0, 0)) := by
  simp [World.setCell, Array.getElem?_modify, h]
theorem heap_one {A : World} {b t : Nat} {x : Value} (h : A.heap[b]? = some (.cells #[x] t (0, 0))) (v : Value) : (A.setCell ⟨b, 0, none⟩ v).heap[b]? = some (.cells #[v] t (0, 0)) := by
  simp [World.setCell, Array.getElem?_modify, h]
theorem cells_two {A : World} {b t : Nat} {x y : Value} (h : A.heap[b]? = some (.cells #[x, y] t (0, 0))) : A.cell? ⟨b, 0, none⟩ = some x ∧ A.cell? ⟨b, 1, none⟩ = some y ∧ A.frozen? ⟨b, 0, none⟩ = false ∧ A.frozen? ⟨b, 1, none⟩ = false := by
  simp [World.cell?, World.frozen?, h]

theorem JInv.abides {B l : Nat} {J : (Nat → Prop) → List Sp.V → World → Prop} {Pv : Nat → Prop} (hPv : ∀ k, Pv k → k < B) (hJ : AbidesT B Pv J) : AbidesT (B + 1 + 1 + 1) Pv (JInv B l J) := by
  rintro O s A C ⟨h1, h2, h3, hO, hj⟩ hk
  have own : ∀ k, B ≤ k → k < B + 1 + 1 + 1 → IterS Pv (B + 1 + 1 + 1) O k := fun k h h' => ⟨fun hp => by have := hPv k hp; omega, .inl h'⟩
  exact ⟨hk.heap h1 (own _ (by omega) (by omega)), hk.heap h2 (own _ (by omega) (by omega)), hk.heap h3 (own _ (by omega) (by omega)), hO, hJ _ _ _ _ hj (hk.mono fun k _ h => ⟨h.1, h.2.imp (fun h => by omega) id⟩)⟩

/-- the run and its mark are stored anew. -/
theorem JInv.set {B l : Nat} {J : (Nat → Prop) → List Sp.V → World → Prop} {Dt Pv : Nat → Prop} {O : Nat → Prop} {pre out : List Sp.V} {r : Sp.V} {A : World} {y1 y2 y3 : Value} (hPv : ∀ k, Pv k → k < B) (hDt : ∀ k, Dt k → k < B) (hJ : AbidesT B Pv J)
    (hy : A.heap[B]? = some (.cells #[.func (.yield l) #[] #[]] 105 (0, 0))) (hrun : A.heap[B + 1]? = some (.cells #[y1, y2] 51 (0, 0))) (hbeg : A.heap[B + 1 + 1]? = some (.cells #[y3] 4 (0, 0))) (hO : ∀ k, O k → B + 5 ≤ k) (hj : J O out A) (hst : Sp.jst pre = (out, some r)) :
    JInv B l J O pre (((A.setCell ⟨B + 1, 0, none⟩ (.int .i64 r.1.1)).setCell ⟨B + 1, 1, none⟩ (.int .i64 r.1.2)).setCell ⟨B + 1 + 1, 0, none⟩ (.bool true)) ∧
      ∀ O', Keeps (RoundS Dt Pv (B + 1 + 1 + 1) O') A (((A.setCell ⟨B + 1, 0, none⟩ (.int .i64 r.1.1)).setCell ⟨B + 1, 1, none⟩ (.int .i64 r.1.2)).setCell ⟨B + 1 + 1, 0, none⟩ (.bool true)) := by
  have nR : ∀ O' i, B ≤ i → i < B + 1 + 1 + 1 → ¬ RoundS Dt Pv (B + 1 + 1 + 1) O' i := by
    rintro O' i h1 h2 (h | h | h)
    · have := hDt i h; omega
    · have := hPv i h; omega
    · omega
  have nI : ∀ i, B ≤ i → i < B + 5 → ¬ IterS Pv B O i := by
    rintro i h1 h2 ⟨_, h | h⟩
    · omega
    · have := hO i h; omega
  refine ⟨⟨?_, ?_, ?_, hO, ?_⟩, fun O' => (((Keeps.refl _ A).setCell (.inr (nR O' _ (by first | (simp; done) | (simp; omega)) (by first | (simp; done) | (simp; omega)))) _).setCell (.inr (nR O' _ (by first | (simp; done) | (simp; omega)) (by first | (simp; done) | (simp; omega)))) _).setCell (.inr (nR O' _ (by first | (simp; done) | (simp; omega)) (by first | (simp; done) | (simp; omega)))) _⟩
  · have h1 := (((Keeps.refl (fun k => k = B) A).setCell (p := ⟨B + 1, 0, none⟩) (.inr (by simp)) (.int .i64 r.1.1)).setCell (p := ⟨B + 1, 1, none⟩) (.inr (by simp)) (.int .i64 r.1.2)).setCell (p := ⟨B + 1 + 1, 0, none⟩) (.inr (by first | (simp; done) | (simp; omega))) (.bool true)
    exact h1.heap hy rfl
  · rw [hst]
    have h1 := (Keeps.refl (fun k => k = B + 1) ((A.setCell ⟨B + 1, 0, none⟩ (.int .i64 r.1.1)).setCell ⟨B + 1, 1, none⟩ (.int .i64 r.1.2))).setCell (p := ⟨B + 1 + 1, 0, none⟩) (.inr (by simp)) (.bool true)
    exact h1.heap (heap_two hrun _ _) rfl
  · rw [hst]
    have h1 := ((Keeps.refl (fun k => k = B + 1 + 1) A).setCell (p := ⟨B + 1, 0, none⟩) (.inr (by simp)) (.int .i64 r.1.1)).setCell (p := ⟨B + 1, 1, none⟩) (.inr (by simp)) (.int .i64 r.1.2)
    exact heap_one (h1.heap hbeg rfl) _
  · rw [hst]
    exact hJ _ _ _ _ hj ((((Keeps.refl _ A).setCell (.inr (nI _ (by first | (simp; done) | (simp; omega)) (by first | (simp; done) | (simp; omega)))) _).setCell (.inr (nI _ (by first | (simp; done) | (simp; omega)) (by first | (simp; done) | (simp; omega)))) _).setCell (.inr (nI _ (by first | (simp; done) | (simp; omega)) (by first | (simp; done) | (simp; omega)))) _)

/-- the run's end is stored anew. -/
theorem JInv.setEnd {B l : Nat} {J : (Nat → Prop) → List Sp.V → World → Prop} {Dt Pv : Nat → Prop} {O : Nat → Prop} {pre out : List Sp.V} {r : Sp.V} {A : World} {y2 : Value} (hPv : ∀ k, Pv k → k < B) (hDt : ∀ k, Dt k → k < B) (hJ : AbidesT B Pv J)
    (hy : A.heap[B]? = some (.cells #[.func (.yield l) #[] #[]] 105 (0, 0))) (hrun : A.heap[B + 1]? = some (.cells #[.int .i64 r.1.1, y2] 51 (0, 0))) (hbeg : A.heap[B + 1 + 1]? = some (.cells #[.bool true] 4 (0, 0))) (hO : ∀ k, O k → B + 5 ≤ k) (hj : J O out A) (hst : Sp.jst pre = (out, some r)) :
    JInv B l J O pre (A.setCell ⟨B + 1, 1, none⟩ (.int .i64 r.1.2)) ∧ ∀ O', Keeps (RoundS Dt Pv (B + 1 + 1 + 1) O') A (A.setCell ⟨B + 1, 1, none⟩ (.int .i64 r.1.2)) := by
  have nR : ∀ O' i, B ≤ i → i < B + 1 + 1 + 1 → ¬ RoundS Dt Pv (B + 1 + 1 + 1) O' i := by
    rintro O' i h1 h2 (h | h | h)
    · have := hDt i h; omega
    · have := hPv i h; omega
    · omega
  refine ⟨⟨?_, ?_, ?_, hO, ?_⟩, fun O' => (Keeps.refl _ A).setCell (.inr (nR O' _ (by first | (simp; done) | (simp; omega)) (by first | (simp; done) | (simp; omega)))) _⟩
  · exact ((Keeps.refl (fun k => k = B) A).setCell (p := ⟨B + 1, 1, none⟩) (.inr (by simp)) _).heap hy rfl
  · rw [hst]; exact heap_snd hrun _
  · rw [hst]; exact ((Keeps.refl (fun k => k = B + 1 + 1) A).setCell (p := ⟨B + 1, 1, none⟩) (.inr (by simp)) _).heap hbeg rfl
  · rw [hst]
    refine hJ _ _ _ _ hj ((Keeps.refl _ A).setCell (.inr ?_) _)
    rintro ⟨_, h | h⟩
    · simp at h
      omega
    · have := hO _ h
      simp at this

/-- the loop's variable, boxed. -/
def JVar (B Bp l gf : Nat) (lb : Array Value) (O : Nat → Prop) (x : Sp.V) (a' : Act) (A : World) : Prop :=
  ∃ Bx, B + 5 ≤ Bx ∧ ¬ O Bx ∧ A.heap[Bx]? = some (.cells #[.int .i64 x.1.1, .int .i64 x.1.2] 51 (0, 0)) ∧
    a' = { tmps := #[.func (.yield l) #[] #[], .pointer (some ⟨Bp, 0, none⟩), .pointer (some ⟨B, 0, none⟩), .pointer (some ⟨B + 1, 0, none⟩), .pointer (some ⟨B + 1 + 1, 0, none⟩), .pointer (some ⟨Bx, 0, none⟩), .func (.func gf) #[] lb, .agg #[.int .i64 x.1.1, .int .i64 x.1.2], undef, undef, undef, undef, undef, undef, undef, undef, undef, undef, undef, undef, undef, undef, undef, undef, undef, undef, undef, undef, undef, undef, undef, undef, undef, undef, undef], defers := [] }

set_option maxRecDepth 100000 in
set_option maxHeartbeats 4000000 in
theorem joined_seq (Bp gf : Nat) (lb : Array Value) (Dt Pv : Nat → Prop) (S : List Sp.V → Prop) (N : Nat) (w0 w : World)
    (eg : ∀ args w, (callFunc gf args).run Try.prog w = .ok (.enter gf args) w)
    (hin : SeqT false Try.prog gf lb encS Dt Pv S (fun _ => False) N w0) (hw : Below w0.heap.size w0 w)
    (hBp : Bp < w.heap.size) (hbox : w.cell? ⟨Bp, 0, none⟩ = some (.func (.func gf) #[] lb)) (hDt : ∀ k, Dt k → k < w.heap.size) (hPv : ∀ k, Pv k → k < w.heap.size) (hS : ∀ xs, S xs → xs.length ≤ N) :
    SeqT false Try.prog 73 #[.pointer (some ⟨Bp, 0, none⟩)] encS Dt Pv (fun ys => ∃ xs, S xs ∧ ys = Sp.joinL xs) (fun _ => False) N w := by
  intro l J Jx W hW hJ _ hst hY h0
  have HX : Hid (∀ O s A, ¬ Jx O s A) := Lib.hid (hst rfl)
  clear hst
  have hbox' := (hW.cell (p := ⟨Bp, 0, none⟩) hBp).trans hbox
  have hsz := hW.size
  have hBpW : Bp < W.heap.size := Nat.lt_of_lt_of_le hBp hsz
  have hb3 : (((W.alloc (.cells #[.func (.yield l) #[] #[]] 105)).alloc (.cells #[.int .i64 0, .int .i64 0] 51)).alloc (.cells #[.bool false] 4)).cell? ⟨Bp, 0, none⟩ = some (.func (.func gf) #[] lb) :=
    (((((Keeps.refl (fun _ => True) W).alloc _).alloc _).alloc _).cell (p := ⟨Bp, 0, none⟩) hBpW trivial).trans hbox'
  refine callsIn_of_wp_marks Try.func73 rfl trivial ?_ rfl
  simp only [Try.ntmps73, List.size_toArray, List.length_cons, List.length_nil, Nat.reduceAdd, Nat.reduceSub, Array.replicate_succ, Array.replicate_zero, List.push_toArray, List.append_toArray, List.nil_append, List.cons_append]
  gi_wp2
  have hPvB : ∀ k, Pv k → k < W.heap.size := fun k hk => Nat.lt_of_lt_of_le (hPv k hk) hsz
  have hDtB : ∀ k, Dt k → k < W.heap.size := fun k hk => Nat.lt_of_lt_of_le (hDt k hk) hsz
  have hI := JInv.abides (l := l) hPvB hJ
  obtain ⟨W0, hW0⟩ : ∃ W0, (((W.alloc (.cells #[.func (.yield l) #[] #[]] 105)).alloc (.cells #[.int .i64 0, .int .i64 0] 51)).alloc (.cells #[.bool false] 4)) = W0 := ⟨_, rfl⟩
  have hs0 : W0.heap.size = W.heap.size + 1 + 1 + 1 := by rw [← hW0]; simp
  have hk0 : ∀ R, Keeps R W W0 := fun R => by rw [← hW0]; exact (((Keeps.refl R W).alloc _).alloc _).alloc _
  have hi0 : JInv W.heap.size l J (fun _ => False) [] W0 := by
    refine ⟨?_, ?_, ?_, fun _ h => h.elim, hJ _ _ _ _ h0 (hk0 _)⟩
    · rw [← hW0]
      exact (((Keeps.refl (fun _ => True) (W.alloc (.cells #[.func (.yield l) #[] #[]] 105))).alloc _).alloc _).heap (World.alloc_heap_new W _) trivial
    · rw [← hW0]
      have h := World.alloc_heap_new (W.alloc (.cells #[.func (.yield l) #[] #[]] 105)) (.cells #[.int .i64 0, .int .i64 0] 51)
      rw [World.size_alloc] at h
      exact ((Keeps.refl (fun _ => True) ((W.alloc (.cells #[.func (.yield l) #[] #[]] 105)).alloc (.cells #[.int .i64 0, .int .i64 0] 51))).alloc _).heap h trivial
    · rw [← hW0]
      have h := World.alloc_heap_new ((W.alloc (.cells #[.func (.yield l) #[] #[]] 105)).alloc (.cells #[.int .i64 0, .int .i64 0] 51)) (.cells #[.bool false] 4)
      rw [World.size_alloc, World.size_alloc] at h
      exact h
  rw [hW0]
  clear hb3 hbox' hbox hW0
  rw [← hs0] at hI
  refine wpIn_rangeT (gf := gf) (lb := lb) rfl eg hin ?b0 ?hDt ?hPv (fun _ => rfl) (JInv W.heap.size l J) (fun _ _ _ _ => False) hI (fun _ _ _ _ _ h _ => h) (fun _ _ _ _ _ h => h) hi0 (JVar W.heap.size Bp l gf lb) ?hAx ?assign ?body ?done ?stop
  case b0 => exact hw.trans ((hW.trans ((hk0 (fun _ => True)).below hsz (fun _ _ => trivial))).mono hw.size)
  case hDt => intro k hk; have := hDt k hk; omega
  case hPv => intro k hk; have := hPv k hk; omega
  case hAx =>
    rintro O x a' A C ⟨Bx, h1, h2, h3, h4⟩ hk
    exact ⟨Bx, h1, h2, hk.heap h3 (by rw [hs0]; omega), h4⟩
  case assign =>
    intro O pre x A K hO hA hi hK
    rw [hs0] at hO hA
    have HK : Hid (∀ (a' : Act) (W' : World), Keeps (RoundS Dt Pv W0.heap.size O) A W' → JInv W.heap.size l J O pre W' → JVar W.heap.size Bp l gf lb O x a' W' → K a' W') := Lib.hid hK
    clear hK
    unfold encS
    gi_wp2
    refine HK.out _ _ ((Keeps.refl _ _).alloc _) (hI _ _ _ _ hi ((Keeps.refl _ _).alloc _)) ⟨A.heap.size, by omega, fun h => by have := hO _ h; omega, ?_, rfl⟩
    exact World.alloc_heap_new A _
  case body =>
    rintro O pre x a' A hO hA ⟨r, hr⟩ ⟨hy1, hrun, hbeg, hOB, hJO⟩ ⟨Bx, hBx, hnO, hcx, rfl⟩ hlen
    rw [hs0] at hO hA
    obtain ⟨y1, y2⟩ : A.cell? ⟨W.heap.size, 0, none⟩ = some (.func (.yield l) #[] #[]) ∧ A.heap.size > W.heap.size := ⟨Boxed.cell hy1, by omega⟩
    have b1 := Boxed.cell hbeg
    have b2 := Boxed.frozen hbeg
    obtain ⟨r1, r2, r3, r4⟩ := cells_two hrun
    obtain ⟨x1, x2, -, -⟩ := cells_two hcx
    cases hst : (Sp.jst pre).2 with
    | none =>
      rw [hst] at b1 r1 r2
      simp only [runS, Option.isSome_none] at b1 r1 r2
      gi_wp2
      refine ⟨fun _ h => (by cases h), ?_⟩
      gi_wp2
      have HS : Sp.jst (pre ++ [x]) = ((Sp.jst pre).1, some x) := by rw [Sp.jst_snoc]; simp [Sp.jstep, hst]
      obtain ⟨e1, e2⟩ := JInv.set (Dt := Dt) (pre := pre ++ [x]) (out := (Sp.jst pre).1) (r := x) hPvB hDtB hJ hy1 hrun hbeg hOB hJO HS
      rw [hs0]
      exact ⟨e2 O, O, Grows.same (fun k hk => by simp; exact (hO k hk).2), e1⟩
    | some r =>
      rw [hst] at b1 r1 r2
      simp only [runS, Option.isSome_some] at b1 r1 r2
      have hrb := r.2
      have hxb := x.2
      rw [hst] at hrun hbeg
      simp only [runS, Option.isSome_some] at hrun hbeg
      by_cases hle : x.1.1 ≤ r.1.2 + 1
      · have HS : Sp.jst (pre ++ [x]) = ((Sp.jst pre).1, some (Sp.jn r x)) := by rw [Sp.jst_snoc]; simp [Sp.jstep, hst, hle]
        obtain ⟨e1, e2⟩ := JInv.setEnd (Dt := Dt) (pre := pre ++ [x]) (out := (Sp.jst pre).1) (r := Sp.jn r x) (y2 := .int .i64 r.1.2) hPvB hDtB hJ hy1 hrun hbeg hOB hJO HS
        have H1 := Lib.hid e1
        have H2 := Lib.hid e2
        have HSs := Lib.hid HS
        clear e1 e2 HS
        by_cases hmx : r.1.2 ≤ x.1.2
        all_goals
          gi_wp2
          all_goals have hm : (Sp.jn r x).1.2 = max r.1.2 x.1.2 := rfl
          all_goals first
          | (rw [show r.1.2 = (Sp.jn r x).1.2 by omega]; exact ⟨H2.out O, O, Grows.same (fun k hk => by simp; exact (hO k hk).2), H1.out⟩)
          | (rw [show x.1.2 = (Sp.jn r x).1.2 by omega]; exact ⟨H2.out O, O, Grows.same (fun k hk => by simp; exact (hO k hk).2), H1.out⟩)
      · have hgt : r.1.2 + 1 < x.1.1 := by omega
        have HS : Sp.jst (pre ++ [x]) = ((Sp.jst pre).1 ++ [r], some x) := by rw [Sp.jst_snoc]; simp [Sp.jstep, hst, hle]
        have hjl := Sp.jst_len pre
        rw [hst] at hjl
        simp only [Option.isSome_some, if_true] at hjl
        obtain ⟨fn, tmps, assign, body, hy, hR⟩ := hY O (Sp.jst pre).1 r A (fun k hk => ⟨by have := (hO k hk).1; omega, (hO k hk).2⟩) (by omega) hJO (by omega)
        unfold encS at hy
        have HSs := Lib.hid HS
        clear HS hjl
        gi_wp2
        refine ⟨rfl, hR.mono ?_⟩
        rintro e W3 ⟨hk3, O', hg3, (⟨rfl, hJ3⟩ | ⟨rfl, hJx3⟩)⟩
        · have own3 : ∀ k, W.heap.size ≤ k → k < W.heap.size + 5 → RoundS Dt Pv W.heap.size O k := fun k h h' => .inr (.inr ⟨h, fun ho => by have := hOB k ho; omega⟩)
          have hy3 := hk3.heap hy1 (own3 _ (by omega) (by omega))
          have hrun3 := hk3.heap hrun (own3 _ (by omega) (by omega))
          have hbeg3 := hk3.heap hbeg (own3 _ (by omega) (by omega))
          have hcx3 := hk3.heap hcx (.inr (.inr ⟨by omega, hnO⟩))
          have hO3 : ∀ k, O' k → W.heap.size + 5 ≤ k := fun k hk => by
            rcases (hg3 k hk).2 with h | h
            · exact hOB k h
            · omega
          obtain ⟨e1, e2⟩ := JInv.set (Dt := Dt) (pre := pre ++ [x]) (out := (Sp.jst pre).1 ++ [r]) (r := x) hPvB hDtB hJ hy3 hrun3 hbeg3 hO3 hJ3 HSs.out
          have H1 := Lib.hid e1
          have H2 := Lib.hid e2
          clear e1 e2
          have g1 := Boxed.frozen hbeg3
          obtain ⟨q1, q2, g3, g4⟩ := cells_two hrun3
          have q3 := Boxed.cell hbeg3
          obtain ⟨z1, z2, -, -⟩ := cells_two hcx3
          have g0 := Boxed.cell hbeg3
          gi_wp2
          have hkk : Keeps (RoundS Dt Pv (W.heap.size + 1 + 1 + 1) O) A W3 := hk3.mono fun k _ h => by
            rcases h with h | h | h
            · exact .inl h
            · exact .inr (.inl h)
            · exact .inr (.inr ⟨by omega, h.2⟩)
          rw [hs0]
          exact ⟨hkk.trans (H2.out O), O', fun k hk => ⟨by simp; exact (hg3 k hk).1, (hg3 k hk).2⟩, H1.out⟩
        · exact (HX.out _ _ _ hJx3).elim
  case done =>
    rintro O D xs A hD hDs hO hnP hSx ⟨hy1, hrun, hbeg, hOB, hJO⟩ hDd
    rw [hs0] at hD
    have y1 := Boxed.cell hy1
    have b1 := Boxed.cell hbeg
    obtain ⟨r1, r2, -, -⟩ := cells_two hrun
    cases hst : (Sp.jst xs).2 with
    | none =>
      rw [hst] at b1 r1 r2
      simp only [runS, Option.isSome_none] at b1 r1 r2
      gi_wp2
      refine ⟨by simp, .inl ⟨_, _, rfl, run_takeDeferred hDd, ?_⟩⟩
      refine ⟨_, results_none rfl _ _ _, ?_⟩
      have hp : ∀ S', ¬ S' D → Keeps S' A (A.putObj D (.deferred none)) := fun S' h => (Keeps.refl _ _).putObj h _
      refine ⟨⟨_, rfl⟩, by have := (hp (fun _ => False) id).size; omega, O, fun k hk => ⟨by have := hOB k hk; omega, Nat.lt_of_lt_of_le (hO k hk).2 (hp (fun _ => False) id).size⟩, .inl ⟨_, ⟨xs, hSx, rfl⟩, ?_⟩⟩
      rw [Sp.joinL_none hst]
      exact hJ _ _ _ _ hJO (hp _ (fun h => by rcases h.2 with h | h; · omega
                                              · have := (hO D h).1; omega))
    | some r =>
      rw [hst] at b1 r1 r2
      simp only [runS, Option.isSome_some] at b1 r1 r2
      have hjl := Sp.jst_len xs
      rw [hst] at hjl
      simp only [Option.isSome_some, if_true] at hjl
      have hxl := hS xs hSx
      obtain ⟨fn, tmps, assign, body, hy, hR⟩ := hY O (Sp.jst xs).1 r A (fun k hk => ⟨by have := hOB k hk; omega, (hO k hk).2⟩) (by omega) hJO (by omega)
      unfold encS at hy
      clear hjl hxl
      gi_wp2
      refine ⟨rfl, hR.mono ?_⟩
      rintro e W3 ⟨hk3, O', hg3, (⟨rfl, hJ3⟩ | ⟨rfl, hJx3⟩)⟩
      · have hDd3 := hk3.heap hDd (.inr (.inr ⟨by omega, fun h => by have := (hO D h).1; omega⟩))
        gi_wp2
        refine ⟨by simp, .inl ⟨_, _, rfl, run_takeDeferred hDd3, ?_⟩⟩
        refine ⟨_, results_none rfl _ _ _, ?_⟩
        have hp : ∀ S', ¬ S' D → Keeps S' W3 (W3.putObj D (.deferred none)) := fun S' h => (Keeps.refl _ _).putObj h _
        have hs3 := hk3.size
        have hO3 : ∀ k, O' k → W.heap.size ≤ k ∧ D < k := fun k hk => by
          rcases (hg3 k hk).2 with h | h
          · have := hO k h; have := hOB k h; omega
          · omega
        refine ⟨⟨_, rfl⟩, by have := (hp (fun _ => False) id).size; omega, O', fun k hk => ⟨(hO3 k hk).1, Nat.lt_of_lt_of_le (hg3 k hk).1 (hp (fun _ => False) id).size⟩, .inl ⟨_, ⟨xs, hSx, rfl⟩, ?_⟩⟩
        rw [Sp.joinL_some hst]
        exact hJ _ _ _ _ hJ3 (hp _ (fun h => by rcases h.2 with h | h; · omega
                                                · have := (hO3 D h).2; omega))
      · exact (HX.out _ _ _ hJx3).elim
  case stop =>
    rintro O D c pre A _ _ _ _ h _ _
    exact h.elim
end Go.Proofs.Ytchladbjhodkoaa
