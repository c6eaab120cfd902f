/- The contracts of hash.with and of the iterator that it hands out. -/
import Derived.Test.YtfbfejeccfoioaaHsWithout
import Derived.Sort.Walk0
namespace Go.Proofs.Ytfbfejeccfoioaa
open Go.RowKit Go.Shelf
attribute [local go_sem] Oper.semAt_some
set_option linter.unusedVariables false
set_option linter.unusedSimpArgs false

set_option maxHeartbeats 1000000 in
theorem with_any (gf : Nat) (lb : Array Value) (n v : List UInt8) (w : World) :
    CallsIn Fence.wide 0 Try.prog 24 #[.func (.func gf) #[] lb, .string ⟨n.toArray⟩, .string ⟨v.toArray⟩] w fun e w' =>
      e = .returned (.func (.func 28) #[] #[.pointer (some ⟨w.heap.size, 0, none⟩), .pointer (some ⟨w.heap.size + 1, 0, none⟩), .pointer (some ⟨w.heap.size + 1 + 1, 0, none⟩)]) ∧
      w' = ((w.alloc (.cells #[.func (.func gf) #[] lb] 44)).alloc (.cells #[.string ⟨n.toArray⟩] 9)).alloc (.cells #[.string ⟨v.toArray⟩] 9) := by
  refine callsIn_of_wp Try.func24 rfl trivial ?_ rfl
  simp only [Try.ntmps24, List.size_toArray, List.length_cons, List.length_nil, Nat.reduceAdd, Nat.reduceSub, Array.replicate_succ, Array.replicate_zero, List.push_toArray, List.append_toArray, List.nil_append, List.cons_append]
  gi_wp2
  go_ret
  exact ⟨rfl, rfl⟩

theorem keeps_trans_lt {T U : Nat → Prop} {A B C : World} (h : Keeps T A B) (k : Keeps U B C) (hs : ∀ i, i < A.heap.size → T i → U i) : Keeps T A C :=
  ⟨k.os.trans h.os, k.tape.trans h.tape, k.output.trans h.output, Nat.le_trans h.size k.size, fun i hi ht => (k.block i (Nat.lt_of_lt_of_le hi h.size) (hs i hi ht)).trans (h.block i hi ht)⟩

/-- between two fields: with's own yield and mark, the name, the value, and the caller's invariant. -/
def PInv (B Bp l : Nat) (n v : List UInt8) (J : (Nat → Prop) → List Fd → World → Prop) (O : Nat → Prop) (st : List Fd × Bool) (A : World) : Prop :=
  Boxed A B 51 (.func (.yield l) #[] #[]) ∧ Boxed A (B + 1) 4 (.bool st.2) ∧ Boxed A (Bp + 1) 9 (.string ⟨n.toArray⟩) ∧ Boxed A (Bp + 1 + 1) 9 (.string ⟨v.toArray⟩) ∧ (∀ k, O k → B + 4 ≤ k) ∧ J O st.1 A

theorem PInv.abides {B Bp l : Nat} {n v : List UInt8} {J : (Nat → Prop) → List Fd → World → Prop} (hn : Bp + 2 < B) (hJ : AbidesT B (fun _ => False) J) : AbidesT (B + 1 + 1) (fun _ => False) (fun O pre A => PInv B Bp l n v J O (Hs.foldW n v pre) A) := by
  rintro O s A C ⟨h1, h2, h3, h4, hO, hj⟩ hk
  exact ⟨hk.heap h1 ⟨id, .inl (by omega)⟩, hk.heap h2 ⟨id, .inl (by omega)⟩, hk.heap h3 ⟨id, .inl (by omega)⟩, hk.heap h4 ⟨id, .inl (by omega)⟩, hO, hJ _ _ _ _ hj (hk.mono fun k _ h => ⟨h.1, h.2.imp (fun h => by omega) id⟩)⟩

/-- behind a yield. -/
theorem PInv.next {B Bp l m : Nat} {n v : List UInt8} {J : (Nat → Prop) → List Fd → World → Prop} {O O' : Nat → Prop} {st : List Fd × Bool} {out : List Fd} {A W3 : World} (h : PInv B Bp l n v J O st A) (hm : Bp + 2 < m) (hA : B + 4 ≤ A.heap.size)
    (hk : Keeps (RoundS (fun k => k < m) (fun _ => False) B O) A W3) (hg : Grows O O' A W3) (hj : J O' out W3) : PInv B Bp l n v J O' (out, st.2) W3 := by
  obtain ⟨h1, h2, h3, h4, hO, -⟩ := h
  refine ⟨hk.heap h1 (.inr (.inr ⟨by omega, fun h => by have := hO _ h; omega⟩)), hk.heap h2 (.inr (.inr ⟨by omega, fun h => by have := hO _ h; omega⟩)), hk.heap h3 (.inl (by omega)), hk.heap h4 (.inl (by omega)), fun k h => ?_, hj⟩
  rcases (hg k h).2 with h | h
  · exact hO k h
  · omega

/-- the mark is set. -/
theorem PInv.mark {B Bp l : Nat} {n v : List UInt8} {J : (Nat → Prop) → List Fd → World → Prop} {O : Nat → Prop} {st : List Fd × Bool} {A : World} (h : PInv B Bp l n v J O st A) (hm : Bp + 2 < B) (hJ : AbidesT B (fun _ => False) J) : PInv B Bp l n v J O (st.1, true) (A.setCell ⟨B + 1, 0, none⟩ (.bool true)) := by
  obtain ⟨h1, h2, h3, h4, hO, hj⟩ := h
  have hk : Keeps (fun k => k ≠ B + 1) A (A.setCell ⟨B + 1, 0, none⟩ (.bool true)) := (Keeps.refl _ _).setCell (.inr (by simp)) _
  exact ⟨hk.heap h1 (by omega), h2.set _, hk.heap h3 (by omega), hk.heap h4 (by omega), hO, hJ _ _ _ _ hj (hk.mono fun k _ h e => by
    rcases h.2 with h | h
    · omega
    · have := hO _ h; omega)⟩

theorem step_no {n v : List UInt8} {out : List Fd} {b : Bool} {x : Fd} (h : b = true ∨ ¬ n < x.1) : Hs.stepW n v (out, b) x = (out ++ [x], b) := by
  rcases h with rfl | h
  · simp [Hs.stepW]
  · simp [Hs.stepW, h]
theorem step_yes {n v : List UInt8} {out : List Fd} {x : Fd} (h : n < x.1) : Hs.stepW n v (out, false) x = (out ++ [(n, v)] ++ [x], true) := by simp [Hs.stepW, h]

set_option maxRecDepth 100000 in
set_option maxHeartbeats 8000000 in
theorem with_seq (Bp gf : Nat) (lb : Array Value) (n v : List UInt8) (xs : List Fd) (N : Nat) (w : World)
    (eg : ∀ args w, (callFunc gf args).run Try.prog w = .ok (.enter gf args) w)
    (hin : SeqL gf lb xs N w) (h1 : Boxed w Bp 44 (.func (.func gf) #[] lb)) (h2 : Boxed w (Bp + 1) 9 (.string ⟨n.toArray⟩)) (h3 : Boxed w (Bp + 1 + 1) 9 (.string ⟨v.toArray⟩)) (hN : N ≤ 1000000) (hxN : xs.length ≤ N) (hnv : OkF (n, v)) :
    SeqB OkF false Try.prog 28 #[.pointer (some ⟨Bp, 0, none⟩), .pointer (some ⟨Bp + 1, 0, none⟩), .pointer (some ⟨Bp + 1 + 1, 0, none⟩)] encF (fun k => k < w.heap.size) (fun _ => False) (fun ys => ys = Hs.endW n v xs) (fun _ => False) (N + 1) w := by
  intro l J Jx W hW hJ _ hst hY h0
  have HX : Hid (∀ O s A, ¬ Jx O s A) := Lib.hid (hst rfl)
  clear hst
  have hsz := hW.size
  have hBp : Bp + 2 < w.heap.size := h3.lt
  have g1 : Boxed W Bp 44 (.func (.func gf) #[] lb) := (hW.block _ (by omega)).trans h1
  have g2 : Boxed W (Bp + 1) 9 (.string ⟨n.toArray⟩) := (hW.block _ (by omega)).trans h2
  have g3 : Boxed W (Bp + 1 + 1) 9 (.string ⟨v.toArray⟩) := (hW.block _ (by omega)).trans h3
  have c1 := ((g1.alloc (.cells #[.func (.yield l) #[] #[]] 51)).alloc (.cells #[.bool false] 4)).cell
  have HY := Lib.hid hY
  have HG2 := Lib.hid g2
  have HG3 := Lib.hid g3
  have HJ := Lib.hid hJ
  clear hY h1 h2 h3 g1 g2 g3
  refine callsIn_of_wp_marks Try.func28 rfl trivial ?_ rfl
  simp only [Try.ntmps28, List.size_toArray, List.length_cons, List.length_nil, Nat.reduceAdd, Nat.reduceSub, Array.replicate_succ, Array.replicate_zero, List.push_toArray, List.append_toArray, List.nil_append, List.cons_append]
  gi_wp2
  obtain ⟨W0, hW0⟩ : ∃ W0, (W.alloc (.cells #[.func (.yield l) #[] #[]] 51)).alloc (.cells #[.bool false] 4) = W0 := ⟨_, rfl⟩
  have hs0 : W0.heap.size = W.heap.size + 1 + 1 := by rw [← hW0]; simp
  have hk0 : ∀ R, Keeps R W W0 := fun R => by rw [← hW0]; exact ((Keeps.refl R W).alloc _).alloc _
  have hI := PInv.abides (l := l) (n := n) (v := v) (Bp := Bp) (B := W.heap.size) (by omega) hJ
  have hi0 : PInv W.heap.size Bp l n v J (fun _ => False) (Hs.foldW n v []) W0 := by
    refine ⟨?_, ?_, (hk0 (fun _ => True)).heap HG2.out trivial, (hk0 (fun _ => True)).heap HG3.out trivial, fun _ h => h.elim, hJ _ _ _ _ h0 (hk0 _)⟩
    · rw [← hW0]
      exact (Boxed.new W _ _).alloc _
    · rw [← hW0]
      have := Boxed.new (W.alloc (.cells #[.func (.yield l) #[] #[]] 51)) 4 (.bool false)
      rwa [World.size_alloc] at this
  rw [hW0]
  clear c1 hW0
  rw [← hs0] at hI
  have hBW : Below w.heap.size w W0 := hW.trans (((hk0 (fun _ => True)).below (Nat.le_refl _) (fun _ _ => trivial)).mono hsz)
  clear hJ
  refine wpIn_rangeB (gf := gf) (lb := lb) rfl eg hin hBW (fun k hk => by omega) (fun k hk => hk.elim) (fun _ => rfl) (fun O pre A => PInv W.heap.size Bp l n v J O (Hs.foldW n v pre) A) (fun _ _ _ _ => False) hI (fun _ _ _ _ _ h _ => h) (fun _ _ _ _ _ h => h) hi0
    (fun _ x a' _ => a' = { tmps := #[.func (.yield l) #[] #[], .pointer (some ⟨Bp, 0, none⟩), .pointer (some ⟨Bp + 1, 0, none⟩), .pointer (some ⟨Bp + 1 + 1, 0, none⟩), .pointer (some ⟨W.heap.size, 0, none⟩), .pointer (some ⟨W.heap.size + 1, 0, none⟩), .string ⟨x.1.toArray⟩, .string ⟨x.2.toArray⟩, .func (.func gf) #[] lb, .string ⟨x.1.toArray⟩, .string ⟨x.2.toArray⟩, undef, undef, undef, undef, undef, undef, undef, undef, undef, undef, undef, undef, undef, undef, undef, undef, undef, undef, undef, undef, undef, undef, undef], defers := [] })
    (fun O x a' A C h hk => h) ?assign ?body ?done ?stop
  case assign =>
    intro O pre x A K hO hA hi hK
    have HK := Lib.hid hK
    have HI := Lib.hid hi
    clear hK hi
    unfold encF
    gi_wp2
    exact HK.out _ _ (Keeps.refl _ _) HI.out rfl
  case body =>
    rintro O pre x a' A hO hA ⟨r, hr⟩ hP rfl hlen hT
    rw [hs0] at hO hA
    obtain ⟨x1, x2⟩ := x
    have hfl := Hs.foldW_len n v pre
    have HF := Lib.hid (Hs.foldW_snoc n v pre (x1, x2))
    obtain ⟨st, hst⟩ : ∃ st, Hs.foldW n v pre = st := ⟨_, rfl⟩
    rw [hst] at HF hP hfl
    obtain ⟨out, b⟩ := st
    simp only at hfl
    have hob : out.length ≤ pre.length + 1 := by split at hfl <;> omega
    have hof : b = false → out.length = pre.length := fun h => by rw [h] at hfl; simpa using hfl
    clear hfl hst
    have HP := Lib.hid hP
    obtain ⟨hy1, hm1, hn1, hv1, hOB, hJO⟩ := hP
    have b0 := hy1.cell
    have b1 := hm1.cell
    have f1 := hm1.frozen
    have b2 := hn1.cell
    have b3 := hv1.cell
    simp only at b1
    have HO := Lib.hid hO
    clear hO hy1 hm1 hn1 hv1 hOB hJO
    by_cases hno : b = true ∨ ¬ n < x1
    · have HS : Hid (Hs.foldW n v (pre ++ [(x1, x2)]) = (out ++ [(x1, x2)], b)) := Lib.hid (by rw [HF.out]; exact step_no hno)
      have hlo : out.length < N + 1 := by
        omega
      obtain ⟨fn, tmps, assign, body, hy, hR⟩ := HY.out O out (x1, x2) A (fun k hk => ⟨by have := (HO.out k hk).1; omega, (HO.out k hk).2⟩) (by omega) HP.out.2.2.2.2.2 hlo hT
      have HR := Lib.hid hR
      unfold encF at hy
      simp only at hy
      have HOF := Lib.hid hof
      have hcond : b = true ∨ (b = false ∧ Op.bytesLess x1 n = true) ∨ (b = false ∧ Op.bytesLess x1 n = false ∧ (x1 == n) = true) := by
        rcases hno with h | h
        · exact .inl h
        · cases b
          · right
            by_cases he : x1 = n
            · subst he
              exact .inr ⟨rfl, by rw [bytesLess_eq, decide_eq_false (List.lt_irrefl _)], by simp⟩
            · exact .inl ⟨rfl, by rw [bytesLess_eq, decide_eq_true (Mk.lt_of_not h fun e => he e.symm)]⟩
          · exact .inl rfl
      clear hR hof hno hob
      rcases hcond with rfl | ⟨rfl, hb⟩ | ⟨rfl, hb, hb2⟩
      all_goals
        gi_wp2
        refine ⟨rfl, HR.out.mono ?_⟩
        rintro e W3 ⟨hk3, O', hg3, (⟨rfl, hJ3⟩ | ⟨rfl, hJx3⟩)⟩
        · have HP3 := Lib.hid (PInv.next HP.out hBp (by omega) hk3 hg3 hJ3)
          have HK3 := Lib.hid hk3
          have HG3 := Lib.hid hg3
          clear hk3 hg3 hJ3 hy
          gi_wp2
          have hkk : Keeps (RoundS (fun k => k < w.heap.size) (fun _ => False) (W.heap.size + 1 + 1) O) A W3 := HK3.out.mono fun k _ h => by
            rcases h with h | h | h
            · exact .inl h
            · exact h.elim
            · exact .inr (.inr ⟨by omega, h.2⟩)
          rw [hs0]
          exact ⟨hkk, O', HG3.out, by show PInv _ _ _ _ _ _ _ (Hs.foldW n v _) _; rw [HS.out]; exact HP3.out⟩
        · exact (HX.out _ _ _ hJx3).elim
    · obtain rfl : b = false := by
        cases b
        · rfl
        · exact (hno (.inl rfl)).elim
      have hlt : n < x1 := by
        by_cases h : n < x1
        · exact h
        · exact (hno (.inr h)).elim
      have hb : Op.bytesLess x1 n = false := by rw [bytesLess_eq, decide_eq_false (List.lt_asymm hlt)]
      have hb2 : (x1 == n) = false := by rw [beq_eq_false_iff_ne]; exact fun e => Mk.lt_ne hlt e.symm
      have HS : Hid (Hs.foldW n v (pre ++ [(x1, x2)]) = (out ++ [(n, v)] ++ [(x1, x2)], true)) := Lib.hid (by rw [HF.out]; exact step_yes hlt)
      have hlo := hof rfl
      have HP1 := Lib.hid (HP.out.mark (by omega) HJ.out)
      have hs1 : (A.setCell ⟨W.heap.size + 1, 0, none⟩ (.bool true)).heap.size = A.heap.size := by simp [World.setCell]
      have hkA : Keeps (RoundS (fun k => k < w.heap.size) (fun _ => False) (W.heap.size + 1 + 1) O) A (A.setCell ⟨W.heap.size + 1, 0, none⟩ (.bool true)) := (Keeps.refl _ _).setCell (.inr (by
        rintro (h | h | h)
        · simp at h; omega
        · exact h
        · simp at h; omega)) _
      obtain ⟨fn, tmps, assign, body, hy, hR⟩ := HY.out O out (n, v) (A.setCell ⟨W.heap.size + 1, 0, none⟩ (.bool true)) (fun k hk => ⟨by have := (HO.out k hk).1; omega, by rw [hs1]; exact (HO.out k hk).2⟩) (by omega) HP1.out.2.2.2.2.2 (by omega) hnv
      have HR := Lib.hid hR
      have HKA := Lib.hid hkA
      have HS1 := Lib.hid hs1
      unfold encF at hy
      simp only at hy
      clear hR hof hno hob hlt hkA hs1
      gi_wp2
      refine ⟨rfl, HR.out.mono ?_⟩
      rintro e W3 ⟨hk3, O3, hg3, (⟨rfl, hJ3⟩ | ⟨rfl, hJx3⟩)⟩
      · have HP3 := Lib.hid (PInv.next HP1.out hBp (by rw [HS1.out]; omega) hk3 hg3 hJ3)
        have hz3 := hk3.size
        rw [HS1.out] at hz3
        have HK3 := Lib.hid hk3
        have HG3 := Lib.hid hg3
        have d0 := HP3.out.1.cell
        obtain ⟨fn2, tmps2, assign2, body2, hy2, hR2⟩ := HY.out O3 (out ++ [(n, v)]) (x1, x2) W3 (fun k hk => ⟨by have := HP3.out.2.2.2.2.1 k hk; omega, (HG3.out k hk).1⟩) (by omega) HP3.out.2.2.2.2.2 (by rw [List.length_append]; simp; omega) hT
        have HR2 := Lib.hid hR2
        unfold encF at hy2
        simp only at hy2
        clear hk3 hg3 hJ3 hy hR2 b0 b1 b2 b3 f1
        gi_wp2
        refine ⟨rfl, HR2.out.mono ?_⟩
        rintro e W4 ⟨hk4, O4, hg4, (⟨rfl, hJ4⟩ | ⟨rfl, hJx4⟩)⟩
        · have HP4 := Lib.hid (PInv.next HP3.out hBp (by omega) hk4 hg4 hJ4)
          have HK4 := Lib.hid hk4
          have HG4 := Lib.hid hg4
          clear hk4 hg4 hJ4 hy2
          gi_wp2
          rw [hs0]
          have hkk : Keeps (RoundS (fun k => k < w.heap.size) (fun _ => False) (W.heap.size + 1 + 1) O) A W4 := by
            refine keeps_trans_lt (keeps_trans_lt HKA.out HK3.out ?_) HK4.out ?_
            · rintro k _ (h | h | h)
              · exact .inl h
              · exact h.elim
              · exact .inr (.inr ⟨by omega, h.2⟩)
            · rintro k hk (h | h | h)
              · exact .inl h
              · exact h.elim
              · refine .inr (.inr ⟨by omega, fun h3 => ?_⟩)
                rcases (HG3.out k h3).2 with h4 | h4
                · exact h.2 h4
                · rw [HS1.out] at h4; omega
          refine ⟨hkk, O4, fun k hk => ⟨(HG4.out k hk).1, ?_⟩, by show PInv _ _ _ _ _ _ _ (Hs.foldW n v _) _; rw [HS.out]; exact HP4.out⟩
          rcases (HG4.out k hk).2 with h | h
          · rcases (HG3.out k h).2 with h | h
            · exact .inl h
            · rw [HS1.out] at h; exact .inr h
          · exact .inr (by omega)
        · exact (HX.out _ _ _ hJx4).elim
      · exact (HX.out _ _ _ hJx3).elim
  case done =>
    rintro O D ys A hD hDs hO hnP rfl hP hDd
    rw [hs0] at hD
    have hfl := Hs.foldW_len n v ys
    have HE : Hid (Hs.endW n v ys = if (Hs.foldW n v ys).2 then (Hs.foldW n v ys).1 else (Hs.foldW n v ys).1 ++ [(n, v)]) := Lib.hid rfl
    obtain ⟨st, hst⟩ : ∃ st, Hs.foldW n v ys = st := ⟨_, rfl⟩
    rw [hst] at HE hP hfl
    obtain ⟨out, b⟩ := st
    have HP := Lib.hid hP
    obtain ⟨hy1, hm1, hn1, hv1, hOB, hJO⟩ := hP
    have b0 := hy1.cell
    have b1 := hm1.cell
    have b2 := hn1.cell
    have b3 := hv1.cell
    simp only at b1 hfl hJO
    have HJO := Lib.hid hJO
    clear hy1 hm1 hn1 hv1 hst hJO
    cases b with
    | true =>
      gi_wp2
      refine ⟨by simp, .inl ⟨_, _, rfl, run_takeDeferred hDd, ?_⟩⟩
      refine ⟨_, results_none rfl _ _ _, ?_⟩
      have hp : ∀ S', ¬ S' D → Keeps S' A (A.putObj D (.deferred none)) := fun S' h => (Keeps.refl _ _).putObj h _
      refine ⟨⟨_, rfl⟩, by have := (hp (fun _ => False) id).size; omega, O, fun k hk => ⟨by have := hOB k hk; omega, Nat.lt_of_lt_of_le (hO k hk).2 (hp (fun _ => False) id).size⟩, ?_⟩
      have HE2 : Hs.endW n v ys = out := HE.out
      rw [HE2]
      exact HJ.out _ _ _ _ HJO.out (hp _ (fun h => by rcases h.2 with h | h; · omega
                                                      · have := (hO D h).1; omega))
    | false =>
      have hlo : out.length = ys.length := by simpa using hfl
      obtain ⟨fn, tmps, assign, body, hy, hR⟩ := HY.out O out (n, v) A (fun k hk => ⟨by have := hOB k hk; omega, (hO k hk).2⟩) (by omega) HJO.out (by omega) hnv
      have HR := Lib.hid hR
      unfold encF at hy
      simp only at hy
      clear hR hfl hlo
      gi_wp2
      refine ⟨rfl, HR.out.mono ?_⟩
      rintro e W3 ⟨hk3, O', hg3, (⟨rfl, hJ3⟩ | ⟨rfl, hJx3⟩)⟩
      · have hDd3 := hk3.heap hDd (.inr (.inr ⟨by omega, fun h => by have := (hO D h).1; omega⟩))
        have HJ3 := Lib.hid hJ3
        have HK3 := Lib.hid hk3
        have HG3 := Lib.hid hg3
        clear hJ3 hk3 hg3 hy
        gi_wp2
        refine ⟨by simp, .inl ⟨_, _, rfl, run_takeDeferred hDd3, ?_⟩⟩
        refine ⟨_, results_none rfl _ _ _, ?_⟩
        have hp : ∀ S', ¬ S' D → Keeps S' W3 (W3.putObj D (.deferred none)) := fun S' h => (Keeps.refl _ _).putObj h _
        have hs3 := HK3.out.size
        have hO3 : ∀ k, O' k → W.heap.size ≤ k ∧ D < k := fun k hk => by
          rcases (HG3.out k hk).2 with h | h
          · have := hO k h; have := hOB k h; omega
          · omega
        refine ⟨⟨_, rfl⟩, by have := (hp (fun _ => False) id).size; omega, O', fun k hk => ⟨(hO3 k hk).1, Nat.lt_of_lt_of_le (HG3.out k hk).1 (hp (fun _ => False) id).size⟩, .inl ⟨_, rfl, ?_⟩⟩
        have HE2 : Hs.endW n v ys = out ++ [(n, v)] := HE.out
        rw [HE2]
        exact HJ.out _ _ _ _ HJ3.out (hp _ (fun h => by rcases h.2 with h | h; · omega
                                                        · have := (hO3 D h).2; omega))
      · exact (HX.out _ _ _ hJx3).elim
  case stop =>
    rintro O D c pre A _ _ _ _ h _ _
    exact h.elim
end Go.Proofs.Ytfbfejeccfoioaa
