/- The contract of the reader's array. -/
import Derived.Test.YtcjbfgkmpoebgaaDoorRpArrBase
import Derived.Test.YtcjbfgkmpoebgaaDoorRpSeqs
import Derived.Shelf.RegionOpen
namespace Go.Proofs.YtcjbfgkmpoebgaaDoor
open Go.RowKit Go.Shelf
attribute [local go_sem] Oper.semAt_some

/-- between two rounds: the row l in its box, its replies, and the two results' boxes. -/
def AInv (w : World) (Pb Bl Bs : Nat) (pre : List EV) (W : World) : Prop :=
  (∃ v, Boxed W Bl 22 v ∧ W.ownsRow Bs 24 4 v pre.length (flat4 pre) ∧ ∀ x ∈ pre, x.c = 0 ∧ Rep (fun k => Bs ≤ k ∧ some k ≠ v.ownBlock) W x.r (.agg (agg4 x).toArray)) ∧
  Keeps (fun k => k ≠ Pb) w W ∧ W.heap[w.heap.size]? = some (.cells #[.int .i64 0, .string ⟨#[]⟩, .int .i64 0, .slice none 0 0] 24 (0, 0)) ∧ W.heap[w.heap.size + 1]? = some (.cells #[.int .i64 0] 32 (0, 0))

/-- left by an error. -/
def AEx (w : World) (Pb : Nat) (c : Code) (pre : List EV) (W : World) : Prop :=
  c = .ret ∧ (∃ p x, pre = p ++ [x] ∧ x.c ≠ 0 ∧ W.heap[w.heap.size + 1]? = some (.cells #[.int .i64 x.c] 32 (0, 0))) ∧
  Keeps (fun k => k ≠ Pb) w W ∧ W.heap[w.heap.size]? = some (.cells #[.int .i64 0, .string ⟨#[]⟩, .int .i64 0, .slice none 0 0] 24 (0, 0))

theorem manyP_len {f : List UInt8 → Rp.Out Rp.R} : ∀ {n : Nat} {bs t : List UInt8} {l : List Rp.R}, Rp.manyP f n bs = .ok l t → l.length = n
  | 0, bs, t, l, h => by
    injection h with h _
    subst h
    rfl
  | n + 1, bs, t, l, h => by
    rw [Rp.manyP] at h
    cases hf : f bs with
    | err c => rw [hf] at h; cases h
    | ok r t1 =>
      rw [hf] at h
      change (Rp.manyP f n t1).map (fun l => r :: l) = .ok l t at h
      cases hm : Rp.manyP f n t1 with
      | err c => rw [hm] at h; cases h
      | ok l' t' =>
        rw [hm] at h
        injection h with h _
        subst h
        rw [List.length_cons, manyP_len hm]

theorem wpAny4 {F : Fence} {n : Nat} {P : Program} {md : Region.Mode} {ops : Array Oper} {Q : Exit → Act → World → Prop} {listed : Array Bool} {a : Act} {w w4 : World} {L4 : Array Bool} {v34 v35 v36 v37 : Value}
    (h : wpAnyIn F n P md ops Q 4 L4 ((((a.put (some 34) v34).put (some 35) v35).put (some 36) v36).put (some 37) v37) w4)
    (k : wpAnyIn F n P md ops Q 4 L4 ((((a.put (some 34) v34).put (some 35) v35).put (some 36) v36).put (some 37) v37) w4 → wpAnyIn F n P md ops Q (4 + 4) listed a w) : wpAnyIn F n P md ops Q (4 + 4) listed a w := k h
theorem wpAnyIn_as {F : Fence} {n fuel : Nat} {P : Program} {md : Region.Mode} {ops : Array Oper} {Q : Exit → Act → World → Prop} {listed l' : Array Bool} {a a' : Act} {w : World} (hl : l' = listed) (ha : a' = a) (h : wpAnyIn F n P md ops Q fuel listed a w) : wpAnyIn F n P md ops Q fuel l' a' w := by
  rw [hl, ha]
  exact h

set_option maxRecDepth 100000 in
set_option maxHeartbeats 4000000 in
theorem array_any (d : Nat) (hd : d ≤ 1000) (f : List UInt8 → Rp.Out Rp.R) (S : Nat → Prop) (Pb : Nat) (bs : List UInt8) (w : World) (h : Rst S Pb w bs) (hS : ¬ S Pb) (hSlt : ∀ k, S k → k < w.heap.size) (henv : Env w) (hPb8 : 8 ≤ Pb)
    (hsuf : ∀ b r t, f b = .ok r t → Rp.IsSuf t b) (hnsuf : ∀ n t, Rp.devP 0 65536 bs = .ok n t → Rp.IsSuf t bs)
    (hf : ∀ b w', Rp.IsSuf b bs → Rst S Pb w' b → Env w' → (∀ k, S k → k < w'.heap.size) → CallsIn Fence.wide 0 Tryd.prog 29 #[.pointer (some ⟨Pb, 0, none⟩), .int .i64 d] w' (ROut S Pb w' (f b))) :
    CallsIn Fence.wide 0 Tryd.prog 41 #[.pointer (some ⟨Pb, 0, none⟩), .int .i64 ((d : Int) + 1)] w (ROut S Pb w (Rp.arrD f bs)) := by
  have hPb := h.lt
  obtain ⟨w2, hw2⟩ : ∃ w2, (w.alloc (.cells #[.int .i64 0, .string ⟨#[]⟩, .int .i64 0, .slice none 0 0] 24)).alloc (.cells #[.int .i64 0] 32) = w2 := ⟨_, rfl⟩
  have hk2 : Keeps (fun _ => True) w w2 := by rw [← hw2]; exact ((Keeps.refl _ _).alloc _).alloc _
  have hs2 : w2.heap.size = w.heap.size + 2 := by rw [← hw2]; simp
  have hbA : w2.heap[w.heap.size]? = some (.cells #[.int .i64 0, .string ⟨#[]⟩, .int .i64 0, .slice none 0 0] 24 (0, 0)) := by
    rw [← hw2]
    exact (Below.heap_alloc _ _ _ (by simp)).trans (World.alloc_heap_new w _)
  have hbE : w2.heap[w.heap.size + 1]? = some (.cells #[.int .i64 0] 32 (0, 0)) := by
    rw [← hw2]
    have := World.alloc_heap_new (w.alloc (.cells #[.int .i64 0, .string ⟨#[]⟩, .int .i64 0, .slice none 0 0] 24)) (.cells #[.int .i64 0] 32)
    rwa [World.size_alloc] at this
  have hr2 : Rst S Pb w2 bs := h.keeps hk2 (fun _ _ => trivial) trivial
  have hnum := number_any S Pb bs 0 65536 w2 hr2 hS (fun k hk => by have := hSlt k hk; omega) (by omega) (by omega) (by omega) (by omega) (henv.keeps hk2 (fun _ _ => trivial))
  have hnum := (callsIn_wide (n := 0)).2 hnum
  have HW2 := Lib.hid hw2
  have HK2 := Lib.hid hk2
  have HS2 := Lib.hid hs2
  have HBA := Lib.hid hbA
  have HBE := Lib.hid hbE
  have HSlt := Lib.hid hSlt
  have HENV := Lib.hid henv
  have dI : ¬ (d : Int) + 1 = 0 := by omega
  have dW : IntKind.i64.wrap ((d : Int) + 1 - 1) = (d : Int) := by rw [show (d : Int) + 1 - 1 = (d : Int) by omega]; exact IntWalk.i64_in _ (by omega)
  clear hw2 hk2 hs2 hbA hbE hr2 h henv hSlt
  refine callsIn_of_wp_marks Tryd.func41 rfl trivial ?_ rfl
  simp only [Tryd.ntmps41, List.size_toArray, List.length_cons, List.length_nil, Nat.reduceAdd, Nat.reduceSub, Array.replicate_succ, Array.replicate_zero, List.push_toArray, List.append_toArray, List.nil_append, List.cons_append]
  cases ho : Rp.devP 0 65536 bs with
  | err c =>
    rw [ho] at hnum
    have HR : Hid (Rp.arrD f bs = .err c) := Lib.hid (by unfold Rp.arrD; rw [ho]; rfl)
    have hc := devP_err ho
    have hc' : ¬ c = 0 := by omega
    clear ho hf
    gi_wp2_with (rw [HW2.out]; refine ⟨trivial, rfl, ?_⟩; refine hnum.mono ?_; rintro e w3 ⟨hk3, n, rfl⟩; have HK3 := Lib.hid hk3; obtain ⟨b0, b1, b2, b3, f0, f1, f2, f3⟩ := cells_four' (hk3.heap HBA.out (by omega)); have e0 := Boxed.cell (hk3.heap HBE.out (by omega)); have e1 := Boxed.frozen (hk3.heap HBE.out (by omega)); clear hk3)
    have hK3 := HK3.out
    obtain ⟨g0, g1⟩ := heap_five (hK3.heap HBA.out (by omega)) (hK3.heap HBE.out (by omega)) (.int .i64 0) (.string ⟨#[]⟩) (.int .i64 0) (.slice none 0 0) (.int .i64 c)
    obtain ⟨h0, h1, h2, h3⟩ := cells_four g0
    refine ⟨_, results_cell2 (t := 4) (T := 24) (u := 5) (U := 32) (p := ⟨w.heap.size, 0, none⟩) (q := ⟨w.heap.size + 1, 0, none⟩) rfl rfl (loadVar24 _ _ _ _ _ _ h0 h1 h2 h3) rfl (loadVar32 _ _ _ (Boxed.cell g1)), ?_⟩
    rw [HR.out]
    exact ⟨keeps_set5 ((HK2.out.mono fun _ _ _ => trivial).trans hK3) (.inl (Nat.le_refl _)) _ _ _ _ _, by omega, _, _, _, _, _, _, rfl⟩
  | ok n r =>
    rw [ho] at hnum
    obtain ⟨hn0, hn1, -⟩ := devP_range ho
    obtain ⟨m, rfl⟩ : ∃ m : Nat, n = m := ⟨n.toNat, by omega⟩
    have HR : Hid (Rp.arrD f bs = (Rp.manyP f m r).map fun l => .mk 6 [] 0 l) := Lib.hid (by unfold Rp.arrD; rw [ho]; rfl)
    have HSR := Lib.hid (hnsuf _ _ ho)
    clear ho
    have HRP : Hid (∀ w3 : World, CallsIn Fence.wide 0 Tryd.prog 54 #[.pointer (some ⟨Pb, 0, none⟩), .int .i64 m, .int .i64 d] (w3.alloc (.cells #[.slice none 0 0] 22)) fun e w' =>
      e = .returned (.func (.func 76) #[] #[.pointer (some ⟨w3.heap.size + 2, 0, none⟩), .pointer (some ⟨w3.heap.size + 1, 0, none⟩), .pointer (some ⟨w3.heap.size + 3, 0, none⟩)]) ∧
      w' = (((w3.alloc (.cells #[.slice none 0 0] 22)).alloc (.cells #[.pointer (some ⟨Pb, 0, none⟩)] 66)).alloc (.cells #[.int .i64 m] 3)).alloc (.cells #[.int .i64 d] 3)) := Lib.hid fun w3 => by
        have := replies_any Pb m d (w3.alloc (.cells #[.slice none 0 0] 22))
        rw [World.size_alloc] at this
        exact this
    gi_wp2_with (first
      | (rw [HW2.out]; refine ⟨trivial, rfl, ?_⟩; refine hnum.mono ?_; rintro e w3 ⟨hk3, rfl, hr3⟩; have HK3 := Lib.hid hk3; have HR3 := Lib.hid hr3; clear hk3 hr3 hnum)
      | (refine ⟨trivial, rfl, ?_⟩; refine (HRP.out w3).mono ?_; rintro e w5 ⟨rfl, hw5⟩; have HW5 := Lib.hid hw5; clear hw5 HRP))
    have hw5 := HW5.out
    clear HW5
    have hs3 : w.heap.size + 2 ≤ w3.heap.size := by have := HK3.out.size; have := HS2.out; omega
    have hk5 : Keeps (fun _ => True) w3 w5 := by rw [hw5]; exact ((((Keeps.refl _ _).alloc _).alloc _).alloc _).alloc _
    have hs5 : w5.heap.size = w3.heap.size + 4 := by rw [hw5]; simp
    have hbl : Boxed w5 w3.heap.size 22 (.slice none 0 0) := by rw [hw5]; exact (((Boxed.new w3 22 _).alloc _).alloc _).alloc _
    have hc1 : w5.cell? ⟨w3.heap.size + 1, 0, none⟩ = some (.pointer (some ⟨Pb, 0, none⟩)) := by
      rw [hw5]
      have := Boxed.new (w3.alloc (.cells #[.slice none 0 0] 22)) 66 (.pointer (some ⟨Pb, 0, none⟩))
      rw [World.size_alloc] at this
      exact Boxed.cell ((this.alloc _).alloc _)
    have hc2 : w5.cell? ⟨w3.heap.size + 2, 0, none⟩ = some (.int .i64 m) := by
      rw [hw5]
      have := Boxed.new ((w3.alloc (.cells #[.slice none 0 0] 22)).alloc (.cells #[.pointer (some ⟨Pb, 0, none⟩)] 66)) 3 (.int .i64 m)
      rw [World.size_alloc, World.size_alloc] at this
      exact Boxed.cell (this.alloc _)
    have hc3 : w5.cell? ⟨w3.heap.size + 3, 0, none⟩ = some (.int .i64 d) := by
      rw [hw5]
      have := Boxed.new (((w3.alloc (.cells #[.slice none 0 0] 22)).alloc (.cells #[.pointer (some ⟨Pb, 0, none⟩)] 66)).alloc (.cells #[.int .i64 m] 3)) 3 (.int .i64 d)
      rw [World.size_alloc, World.size_alloc, World.size_alloc] at this
      exact Boxed.cell this
    clear hw5
    have hkw5 : Keeps (fun k => k ≠ Pb) w w5 := ((HK2.out.mono fun _ _ _ => trivial).trans HK3.out).trans (hk5.mono fun _ _ _ => trivial)
    have hr5 : Rst S Pb w5 r := HR3.out.keeps hk5 (fun _ _ => trivial) trivial
    have he5 : Env w5 := HENV.out.keeps hkw5 (fun k hk => by omega)
    have hA5 := (hk5.heap (HK3.out.heap HBA.out (by omega)) trivial)
    have hE5 := (hk5.heap (HK3.out.heap HBE.out (by omega)) trivial)
    have hseq := replies_seq S Pb m d (w3.heap.size + 1) f r w5 (by omega) hsuf (fun b w' hb hr he hs => hf b w' (hb.trans HSR.out) hr he hs) hS (fun k hk => by have := HSlt.out k hk; omega) ⟨hPb8, by omega⟩ (by omega) he5 hr5 hc2 hc1 hc3
    clear hc1 hc2 hc3 he5 hr5 hf hsuf
    refine wpIn_rangeQ (gf := 76) (lb := #[.pointer (some ⟨w3.heap.size + 2, 0, none⟩), .pointer (some ⟨w3.heap.size + 1, 0, none⟩), .pointer (some ⟨w3.heap.size + 3, 0, none⟩)]) rfl (enters_of Tryd.func76 (by kernel_rfl) rfl)
      hseq (Below.refl _ _) (fun k h => by rcases h with h | h | h; have := HSlt.out k h; omega; omega; omega) (fun k h => by omega) (fun _ => rfl) ?hS ?hT
      (AInv w Pb w3.heap.size (w5.heap.size + 2)) (AEx w Pb) ?hI ?hIx ?hIl ?hIxl ⟨⟨_, hbl, World.ownsRow_nil _ _ _ _, fun x hx => absurd hx (by simp)⟩, hkw5, hA5, hE5⟩
      (fun x a' A => ∃ Bx, w5.heap.size + 2 ≤ Bx ∧ A.heap[Bx]? = some (.cells #[.int .i64 x.k, .string x.s, .int .i64 x.n, .slice x.a x.m x.cap] 24 (0, 0)) ∧ a' = { tmps := #[.pointer (some ⟨Pb, 0, none⟩), .int .i64 ((d : Int) + 1), undef, undef, .pointer (some ⟨w.heap.size, 0, none⟩), .pointer (some ⟨w.heap.size + 1, 0, none⟩), .int .i64 m, .int .i64 0, .pointer (some ⟨w3.heap.size, 0, none⟩), .pointer (some ⟨Bx, 0, none⟩), .int .i64 x.c, .int .i64 ((d : Int) + 1), .bool false, undef, .tuple #[.int .i64 m, .int .i64 0], .pointer (some ⟨Pb, 0, none⟩), .tuple #[.int .i64 m, .int .i64 0], .int .i64 m, .int .i64 0, .int .i64 0, .bool false, undef, undef, .pointer (some ⟨Pb, 0, none⟩), .int .i64 m, .int .i64 ((d : Int) + 1), .int .i64 d, .func (.func 76) #[] #[.pointer (some ⟨w3.heap.size + 2, 0, none⟩), .pointer (some ⟨w3.heap.size + 1, 0, none⟩), .pointer (some ⟨w3.heap.size + 3, 0, none⟩)], .agg #[.int .i64 x.k, .string x.s, .int .i64 x.n, .slice x.a x.m x.cap], .int .i64 x.c, undef, undef, undef, undef, undef, undef, undef, undef, undef, undef, undef, undef], defers := [] }) ?hAx ?assign ?body ?done ?stop
    case hS =>
      rintro xs A C h hk
      rcases h with ⟨h1, t, h2, h3⟩ | h
      · exact .inl ⟨h1, t, h2, h3.keeps hk (fun k hk => by have := HSlt.out k hk; omega) (by omega)⟩
      · exact .inr h
    case hT =>
      rintro b x A C hb h hk hc
      exact Rep.keeps (hk.mono fun k _ (h : b ≤ k) => by omega) (fun k h _ => h) x.r _ (h hc)
    case hI =>
      rintro s A C ⟨⟨v, h1, h2, h3⟩, h4, h5, h6⟩ hk
      exact ⟨⟨v, hk.heap h1 (by omega), owns_kept h2 hk (fun g hg => by have := (h2.lt g hg).1; omega), fun x hx => ⟨(h3 x hx).1, Rep.keeps (hk.mono fun k _ h => by omega) (fun k h _ => h) x.r _ (h3 x hx).2⟩⟩, h4.trans hk, hk.heap h5 (by omega), hk.heap h6 (by omega)⟩
    case hIx =>
      rintro c s A C ⟨h1, ⟨p, x, h2, h3, h4⟩, h5, h6⟩ hk
      exact ⟨h1, ⟨p, x, h2, h3, hk.heap h4 (by omega)⟩, h5.trans hk, hk.heap h6 (by omega)⟩
    case hIl =>
      rintro s A C ⟨⟨v, h1, h2, h3⟩, h4, h5, h6⟩ hk
      exact ⟨⟨v, hk.heap h1 (by omega), owns_kept h2 hk (fun g hg => by have := (h2.lt g hg).1; omega), fun x hx => ⟨(h3 x hx).1, Rep.keeps (hk.mono fun k _ h => by omega) (fun k h _ => h) x.r _ (h3 x hx).2⟩⟩, Keeps.trans_lt h4 hk (fun i hi _ => by omega), hk.heap h5 (by omega), hk.heap h6 (by omega)⟩
    case hIxl =>
      rintro c s A C ⟨h1, ⟨p, x, h2, h3, h4⟩, h5, h6⟩ hk
      exact ⟨h1, ⟨p, x, h2, h3, hk.heap h4 (by omega)⟩, Keeps.trans_lt h5 hk (fun i hi _ => by omega), hk.heap h6 (by omega)⟩
    case hAx =>
      rintro x a' A C ⟨Bx, h1, h2, h3⟩ hk
      exact ⟨Bx, h1, hk.heap h2 (by omega), h3⟩
    case assign =>
      intro pre x A K hA hI hK
      have HK := Lib.hid hK
      clear hK
      unfold encE
      gi_wp2
      obtain ⟨⟨v, h1, h2, h3⟩, h4, h5, h6⟩ := hI
      refine HK.out _ _ ((Keeps.refl _ _).alloc _) ⟨⟨v, h1.alloc _, h2.alloc _, fun x hx => ⟨(h3 x hx).1, Rep.keeps ((Keeps.refl _ A).alloc _) (fun k h _ => h) x.r _ (h3 x hx).2⟩⟩, h4.alloc _, ?_, ?_⟩ ⟨A.heap.size, by omega, World.alloc_heap_new A _, rfl⟩
      · exact ((Keeps.refl (fun _ => True) A).alloc _).heap h5 trivial
      · exact ((Keeps.refl (fun _ => True) A).alloc _).heap h6 trivial
    case body =>
      rintro pre x a' A hA ⟨q, hq⟩ ⟨⟨v, hv, hrow, hreps⟩, hkw, hba, hbe⟩ ⟨Bx, hBx, hcx, rfl⟩ hT hlen
      obtain ⟨b0, b1, b2, b3, f0, f1, f2, f3⟩ := cells_four' hba
      have e0 := Boxed.cell hbe
      have e1 := Boxed.frozen hbe
      by_cases hc0 : x.c = 0
      · obtain ⟨i0, hi, hz0, hz1, hz2⟩ := info_parts info24
        have hmix : Tryd.prog.follows .mixedOrders = true := by kernel_rfl
        have hpl : pre.length < 65536 := by omega
        obtain ⟨g, cap, W6, hrun, hown6, hgrow, hat, hlt⟩ := run_append_lies (P := Tryd.prog) ((A.alloc (.cells #[.int .i64 0, .string ⟨#[]⟩, .int .i64 0, .slice none 0 0] 24)).drew) 22 22 (w5.heap.size + 2) 24 i0 _ 4 56 Tryd.underlying22 hi hz0 hz1 hz2 rfl (by omega) v pre.length (flat4 pre) (hrow.alloc _)
          ⟨A.heap.size, 0, none⟩ 1 1 [.int .i64 0, .string ⟨#[]⟩, .int .i64 0, .slice none 0 0] rfl (World.news_of_block (cs := #[.int .i64 0, .string ⟨#[]⟩, .int .i64 0, .slice none 0 0]) (t := 24) (fr := (0, 0)) (World.alloc_heap_new A _)) (by simp [Value.oneCell']) (by omega) (by unfold maxLen; omega) (by omega) (by simp; omega) (A.heap.size + 1) (by simp)
        have hk6 : Keeps (fun k => some k ≠ v.ownBlock) A W6 := (((Keeps.refl _ A).alloc _).drew).trans (Keeps.of_grown hgrow fun r e h => h e.symm)
        have hx4 := flat4_len pre
        obtain ⟨⟨z0, z1, z2, z3⟩, y0, y1, y2, y3⟩ := row_cells hown6 hx4
        have hvg : ∀ k, v.ownBlock = some k → w5.heap.size + 2 ≤ k := fun k hk => (hrow.lt k hk).1
        have hv6 : Boxed W6 w3.heap.size 22 v := hk6.heap hv (fun e => by have := hvg _ e.symm; omega)
        have l6 := hv6.cell
        have l7 := hv6.frozen
        have l5 := hv.cell
        obtain ⟨p0, p1, p2, p3⟩ := cells_four hcx
        obtain ⟨va, vm, vc, rfl⟩ : ∃ va vm vc, v = .slice va vm vc := by
          rcases hrow.2 with ⟨rfl, _⟩ | ⟨_, _, _, rfl, _⟩
          · exact ⟨_, _, _, rfl⟩
          · exact ⟨_, _, _, rfl⟩
        have hvm : vm = pre.length := by
          rcases hrow.2 with ⟨h, h0⟩ | ⟨_, _, _, h, _⟩
          · injection h with _ h _
            rw [h, h0]
          · injection h
        subst hvm
        have nI : (pre.length : Int) < ((pre.length + 1 : Nat) : Int) := by omega
        have HHR := Lib.hid hrow
        have HO6 := Lib.hid hown6
        have HK6 := Lib.hid hk6
        have HG := Lib.hid hgrow
        have HHV := Lib.hid hv
        have HHP := Lib.hid hreps
        have HHW := Lib.hid hkw
        have HHA := Lib.hid hba
        have HHE := Lib.hid hbe
        have HHC := Lib.hid hcx
        obtain ⟨W0, hW0, ⟨⟨v0, hv0, hrow0, -⟩, -, -, -⟩, hkW, hT0⟩ := hT
        have hv00 := (hkW.heap hv0 ⟨by omega, by omega⟩).symm.trans hv
        obtain rfl : v0 = .slice va pre.length vc := by
          injection hv00 with hv00
          injection hv00 with hv00 _ _
          simpa using hv00
        have HVW : Hid (∀ k, (Value.slice va pre.length vc).ownBlock = some k → k < W0.heap.size) := Lib.hid fun k hk => (hrow0.lt k hk).2
        have HHT := Lib.hid (hT0 hc0)
        have HW0 := Lib.hid hW0
        clear hW0 hv0 hrow0 hkW hT0 hv00
        have HVG := Lib.hid hvg
        have HAT := Lib.hid hat
        have HLT := Lib.hid hlt
        clear hown6 hk6 hgrow hv hreps hkw hba hbe hcx hq hvg hat hlt hrow hv6 b0 b1 b2 b3 f0 f1 f2 f3 e0 e1 hx4
        gi_wp2
        have mI : (pre.length : Int) < (pre.length : Int) + 1 := by omega
        have gB : w5.heap.size + 2 ≤ g := by
          rcases HAT.out with h | h
          · exact HVG.out g h
          · omega
        have gN : ¬ g = w3.heap.size := by omega
        have gM : ¬ w3.heap.size = g := by omega
        have HX4 := flat4_len pre
        have HB6 : Boxed W6 w3.heap.size 22 (.slice va pre.length vc) := HK6.out.heap HHV.out (fun e => by have := HVG.out _ e.symm; omega)
        have HF : Hid (∀ W7, Keeps (fun k => k ≠ w3.heap.size ∧ k ≠ g) W6 W7 → Boxed W7 w3.heap.size 22 (.slice (some ⟨g, 0, none⟩) (pre.length + 1) cap) → W7.ownsRow (w5.heap.size + 2) 24 4 (.slice (some ⟨g, 0, none⟩) (pre.length + 1) cap) (pre.length + 1) (flat4 pre ++ agg4 x) →
            ownPostP (BodyS (DtE S (w3.heap.size + 1)) (fun k => k = Pb) w5.heap.size) (AInv w Pb w3.heap.size (w5.heap.size + 2)) (AEx w Pb) (pre ++ [x]) A .normal { tmps := #[], defers := [] } W7) := Lib.hid (by
          intro W7 hk hb ho
          have hk7 : Keeps (fun k => k ≠ w3.heap.size ∧ k ≠ g ∧ some k ≠ (Value.slice va pre.length vc).ownBlock) A W7 := (HK6.out.mono fun k _ h => h.2.2).trans (hk.mono fun k _ h => ⟨h.1, h.2.1⟩)
          have small : ∀ k, k < w5.heap.size + 2 → k ≠ w3.heap.size → k ≠ w3.heap.size ∧ k ≠ g ∧ some k ≠ (Value.slice va pre.length vc).ownBlock := fun k h1 h2 => ⟨h2, by omega, fun e => by have := HVG.out _ e.symm; omega⟩
          refine ⟨hk7.mono fun k _ h => ?_, ⟨_, hb, ?_, ?_⟩, Keeps.trans_lt HHW.out hk7 (fun i hi _ => small i (by omega) (by omega)), hk7.heap HHA.out (small _ (by omega) (by omega)), hk7.heap HHE.out (small _ (by omega) (by omega))⟩
          · rcases h with (h | h | h) | h | h | h
            · have := HSlt.out _ h; exact small k (by omega) (by omega)
            · exact small k (by omega) (by omega)
            · exact small k (by omega) (by omega)
            · exact small k (by omega) (by omega)
            · exact small k (by omega) (by omega)
            · exact small k (by omega) (by omega)
          · rw [flat4_snoc, List.length_append]
            exact ho
          · intro y hy
            rcases List.mem_append.1 hy with hy | hy
            · refine ⟨(HHP.out y hy).1, ?_⟩
              have hg : ∀ k, k < A.heap.size → some k ≠ (Value.slice va pre.length vc).ownBlock → k ≠ g := fun k hk hne e => by
                rcases HAT.out with h | h
                · exact hne (by rw [h, e])
                · omega
              refine Rep.keeps (hk7.mono fun k hlt (h : w5.heap.size + 2 ≤ k ∧ some k ≠ (Value.slice va pre.length vc).ownBlock) => ⟨by omega, hg k hlt h.2, h.2⟩) (fun k h hlt => ⟨h.1, fun e => hg k hlt h.2 ?_⟩) y.r _ (HHP.out y hy).2
              have e' : some k = some g := e
              injection e'
            · obtain rfl := List.mem_singleton.1 hy
              have hg : ∀ k, k < A.heap.size → W0.heap.size ≤ k → k ≠ g := fun k hk hne e => by
                rcases HAT.out with h | h
                · have := HVW.out _ h; omega
                · omega
              refine ⟨hc0, Rep.keeps (hk7.mono fun k hlt (h : W0.heap.size ≤ k) => ⟨by have := HW0.out; omega, hg k hlt h, fun e => by have := HVW.out _ e.symm; omega⟩) (fun k h hlt => ⟨by have := HW0.out; omega, fun e => hg k hlt h ?_⟩) y.r _ HHT.out⟩
              have e' : some k = some g := e
              injection e')
        have m5 := (HHV.out.alloc (.cells #[.int .i64 0, .string ⟨#[]⟩, .int .i64 0, .slice none 0 0] 24)).cell
        obtain ⟨m0, m1, m2, m3⟩ := cells_four (((Keeps.refl (fun _ => True) A).alloc (.cells #[.int .i64 0, .string ⟨#[]⟩, .int .i64 0, .slice none 0 0] 24)).heap HHC.out trivial)
        refine wpIn_region_any hmix ?_
        change wpAnyIn _ _ _ _ _ _ (4 + 4) _ _ (World.drew _)
        refine wpAny4 (w4 := (A.alloc (.cells #[.int .i64 0, .string ⟨#[]⟩, .int .i64 0, .slice none 0 0] 24)).drew) (L4 := #[true, true, true, true, false, false, false, false]) (v34 := .slice va pre.length vc) (v35 := .agg #[.int .i64 x.k, .string x.s, .int .i64 x.n, .slice x.a x.m x.cap]) (v36 := .int .i64 pre.length) (v37 := .slice (some ⟨A.heap.size, 0, none⟩) 1 1) ?rest (fun HREST => ?walk)
        case walk =>
          refine wpAnyIn_ready (rs := [0, 1, 3]) (by kernel_rfl) (by simp) ?_
          refine AllReadyIn.cons rfl (fun K hK => ?_) ?_
          · go_simp
            refine hK _ _ ?_; clear hK K
            refine wpAnyIn_ready (rs := [1, 2, 3]) (by kernel_rfl) (by simp) ?_
            refine AllReadyIn.cons rfl (fun K hK => ?_) ?_
            · go_simp
              refine hK _ _ ?_; clear hK K
              refine wpAnyIn_ready (rs := [2, 3]) (by kernel_rfl) (by simp) ?_
              refine AllReadyIn.cons rfl (fun K hK => ?_) ?_
              · go_simp
                refine hK _ _ ?_; clear hK K
                refine wpAnyIn_ready (rs := [3]) (by kernel_rfl) (by simp) ?_
                refine AllReadyIn.cons rfl (fun K hK => ?_) ?_
                · go_simp
                  refine hK _ _ ?_; clear hK K
                  refine wpAnyIn_as ?_ ?_ HREST
                  · kernel_rfl
                  · kernel_rfl
                exact AllReadyIn.nil
              refine AllReadyIn.cons rfl (fun K hK => ?_) ?_
              · go_simp
                refine hK _ _ ?_; clear hK K
                refine wpAnyIn_ready (rs := [2]) (by kernel_rfl) (by simp) ?_
                refine AllReadyIn.cons rfl (fun K hK => ?_) ?_
                · go_simp
                  refine hK _ _ ?_; clear hK K
                  refine wpAnyIn_as ?_ ?_ HREST
                  · kernel_rfl
                  · kernel_rfl
                exact AllReadyIn.nil
              exact AllReadyIn.nil
            refine AllReadyIn.cons rfl (fun K hK => ?_) ?_
            · go_simp
              refine hK _ _ ?_; clear hK K
              refine wpAnyIn_ready (rs := [1, 3]) (by kernel_rfl) (by simp) ?_
              refine AllReadyIn.cons rfl (fun K hK => ?_) ?_
              · go_simp
                refine hK _ _ ?_; clear hK K
                refine wpAnyIn_ready (rs := [3]) (by kernel_rfl) (by simp) ?_
                refine AllReadyIn.cons rfl (fun K hK => ?_) ?_
                · go_simp
                  refine hK _ _ ?_; clear hK K
                  refine wpAnyIn_as ?_ ?_ HREST
                  · kernel_rfl
                  · kernel_rfl
                exact AllReadyIn.nil
              refine AllReadyIn.cons rfl (fun K hK => ?_) ?_
              · go_simp
                refine hK _ _ ?_; clear hK K
                refine wpAnyIn_ready (rs := [1]) (by kernel_rfl) (by simp) ?_
                refine AllReadyIn.cons rfl (fun K hK => ?_) ?_
                · go_simp
                  refine hK _ _ ?_; clear hK K
                  refine wpAnyIn_as ?_ ?_ HREST
                  · kernel_rfl
                  · kernel_rfl
                exact AllReadyIn.nil
              exact AllReadyIn.nil
            refine AllReadyIn.cons rfl (fun K hK => ?_) ?_
            · go_simp
              refine hK _ _ ?_; clear hK K
              refine wpAnyIn_ready (rs := [1, 2]) (by kernel_rfl) (by simp) ?_
              refine AllReadyIn.cons rfl (fun K hK => ?_) ?_
              · go_simp
                refine hK _ _ ?_; clear hK K
                refine wpAnyIn_ready (rs := [2]) (by kernel_rfl) (by simp) ?_
                refine AllReadyIn.cons rfl (fun K hK => ?_) ?_
                · go_simp
                  refine hK _ _ ?_; clear hK K
                  refine wpAnyIn_as ?_ ?_ HREST
                  · kernel_rfl
                  · kernel_rfl
                exact AllReadyIn.nil
              refine AllReadyIn.cons rfl (fun K hK => ?_) ?_
              · go_simp
                refine hK _ _ ?_; clear hK K
                refine wpAnyIn_ready (rs := [1]) (by kernel_rfl) (by simp) ?_
                refine AllReadyIn.cons rfl (fun K hK => ?_) ?_
                · go_simp
                  refine hK _ _ ?_; clear hK K
                  refine wpAnyIn_as ?_ ?_ HREST
                  · kernel_rfl
                  · kernel_rfl
                exact AllReadyIn.nil
              exact AllReadyIn.nil
            exact AllReadyIn.nil
          refine AllReadyIn.cons rfl (fun K hK => ?_) ?_
          · go_simp
            refine hK _ _ ?_; clear hK K
            refine wpAnyIn_ready (rs := [0, 3]) (by kernel_rfl) (by simp) ?_
            refine AllReadyIn.cons rfl (fun K hK => ?_) ?_
            · go_simp
              refine hK _ _ ?_; clear hK K
              refine wpAnyIn_ready (rs := [2, 3]) (by kernel_rfl) (by simp) ?_
              refine AllReadyIn.cons rfl (fun K hK => ?_) ?_
              · go_simp
                refine hK _ _ ?_; clear hK K
                refine wpAnyIn_ready (rs := [3]) (by kernel_rfl) (by simp) ?_
                refine AllReadyIn.cons rfl (fun K hK => ?_) ?_
                · go_simp
                  refine hK _ _ ?_; clear hK K
                  refine wpAnyIn_as ?_ ?_ HREST
                  · kernel_rfl
                  · kernel_rfl
                exact AllReadyIn.nil
              refine AllReadyIn.cons rfl (fun K hK => ?_) ?_
              · go_simp
                refine hK _ _ ?_; clear hK K
                refine wpAnyIn_ready (rs := [2]) (by kernel_rfl) (by simp) ?_
                refine AllReadyIn.cons rfl (fun K hK => ?_) ?_
                · go_simp
                  refine hK _ _ ?_; clear hK K
                  refine wpAnyIn_as ?_ ?_ HREST
                  · kernel_rfl
                  · kernel_rfl
                exact AllReadyIn.nil
              exact AllReadyIn.nil
            refine AllReadyIn.cons rfl (fun K hK => ?_) ?_
            · go_simp
              refine hK _ _ ?_; clear hK K
              refine wpAnyIn_ready (rs := [0]) (by kernel_rfl) (by simp) ?_
              refine AllReadyIn.cons rfl (fun K hK => ?_) ?_
              · go_simp
                refine hK _ _ ?_; clear hK K
                refine wpAnyIn_ready (rs := [2]) (by kernel_rfl) (by simp) ?_
                refine AllReadyIn.cons rfl (fun K hK => ?_) ?_
                · go_simp
                  refine hK _ _ ?_; clear hK K
                  refine wpAnyIn_as ?_ ?_ HREST
                  · kernel_rfl
                  · kernel_rfl
                exact AllReadyIn.nil
              exact AllReadyIn.nil
            exact AllReadyIn.nil
          refine AllReadyIn.cons rfl (fun K hK => ?_) ?_
          · go_simp
            refine hK _ _ ?_; clear hK K
            refine wpAnyIn_ready (rs := [0, 1]) (by kernel_rfl) (by simp) ?_
            refine AllReadyIn.cons rfl (fun K hK => ?_) ?_
            · go_simp
              refine hK _ _ ?_; clear hK K
              refine wpAnyIn_ready (rs := [1, 2]) (by kernel_rfl) (by simp) ?_
              refine AllReadyIn.cons rfl (fun K hK => ?_) ?_
              · go_simp
                refine hK _ _ ?_; clear hK K
                refine wpAnyIn_ready (rs := [2]) (by kernel_rfl) (by simp) ?_
                refine AllReadyIn.cons rfl (fun K hK => ?_) ?_
                · go_simp
                  refine hK _ _ ?_; clear hK K
                  refine wpAnyIn_as ?_ ?_ HREST
                  · kernel_rfl
                  · kernel_rfl
                exact AllReadyIn.nil
              refine AllReadyIn.cons rfl (fun K hK => ?_) ?_
              · go_simp
                refine hK _ _ ?_; clear hK K
                refine wpAnyIn_ready (rs := [1]) (by kernel_rfl) (by simp) ?_
                refine AllReadyIn.cons rfl (fun K hK => ?_) ?_
                · go_simp
                  refine hK _ _ ?_; clear hK K
                  refine wpAnyIn_as ?_ ?_ HREST
                  · kernel_rfl
                  · kernel_rfl
                exact AllReadyIn.nil
              exact AllReadyIn.nil
            refine AllReadyIn.cons rfl (fun K hK => ?_) ?_
            · go_simp
              refine hK _ _ ?_; clear hK K
              refine wpAnyIn_ready (rs := [0]) (by kernel_rfl) (by simp) ?_
              refine AllReadyIn.cons rfl (fun K hK => ?_) ?_
              · go_simp
                refine hK _ _ ?_; clear hK K
                refine wpAnyIn_ready (rs := [2]) (by kernel_rfl) (by simp) ?_
                refine AllReadyIn.cons rfl (fun K hK => ?_) ?_
                · go_simp
                  refine hK _ _ ?_; clear hK K
                  refine wpAnyIn_as ?_ ?_ HREST
                  · kernel_rfl
                  · kernel_rfl
                exact AllReadyIn.nil
              exact AllReadyIn.nil
            exact AllReadyIn.nil
          exact AllReadyIn.nil
        case rest =>
          refine wpAnyIn_ready (rs := [4]) (by kernel_rfl) (by simp) ?_
          refine AllReadyIn.cons rfl (fun K hK => ?_) ?_
          · refine stepIn_append rfl _ _ _ rfl _ _ rfl rfl hrun ?_
            refine hK _ _ ?_; clear hK K
            refine wpAnyIn_ready (rs := [5, 7]) (by kernel_rfl) (by simp) ?_
            refine AllReadyIn.cons rfl (fun K hK => ?_) ?_
            · go_simp
              refine hK _ _ ?_; clear hK K
              refine wpAnyIn_ready (rs := [6, 7]) (by kernel_rfl) (by simp) ?_
              refine AllReadyIn.cons rfl (fun K hK => ?_) ?_
              · go_simp
                refine hK _ _ ?_; clear hK K
                refine wpAnyIn_ready (rs := [7]) (by kernel_rfl) (by simp) ?_
                refine AllReadyIn.cons rfl (fun K hK => ?_) ?_
                · go_simp
                  refine hK _ _ ?_; clear hK K
                  refine wpAnyIn_done (by kernel_rfl) ?_ _
                  refine HF.out _ ?_ ?_ ?_
                  · exact (((((Keeps.refl _ W6).setCell (.inr fun h => h.2 rfl) _).setCell (.inr fun h => h.2 rfl) _).setCell (.inr fun h => h.2 rfl) _).setCell (.inr fun h => h.2 rfl) _).setCell (.inr fun h => h.1 rfl) _
                  · exact heap_one (x := .slice va pre.length vc) (((((((Keeps.refl (fun k => k ≠ g) W6).setCell (.inr fun h => h rfl) _).setCell (.inr fun h => h rfl) _).setCell (.inr fun h => h rfl) _).setCell (.inr fun h => h rfl) _)).heap HB6 gM) _
                  · exact owns_kept (owns_last HO6.out HX4 _ _ _ _) ((Keeps.refl (fun k => k ≠ w3.heap.size) _).setCell (.inr fun h => h rfl) _) (fun k hk => by obtain rfl : g = k := Option.some.inj hk; exact gN)
                exact AllReadyIn.nil
              refine AllReadyIn.cons rfl (fun K hK => ?_) ?_
              · go_simp
                refine hK _ _ ?_; clear hK K
                refine wpAnyIn_ready (rs := [6]) (by kernel_rfl) (by simp) ?_
                refine AllReadyIn.cons rfl (fun K hK => ?_) ?_
                · go_simp
                  refine hK _ _ ?_; clear hK K
                  refine wpAnyIn_done (by kernel_rfl) ?_ _
                  refine HF.out _ ?_ ?_ ?_
                  · exact (((((Keeps.refl _ W6).setCell (.inr fun h => h.1 rfl) _).setCell (.inr fun h => h.2 rfl) _).setCell (.inr fun h => h.2 rfl) _).setCell (.inr fun h => h.2 rfl) _).setCell (.inr fun h => h.2 rfl) _
                  · exact ((((((Keeps.refl (fun k => k ≠ g) _).setCell (.inr fun h => h rfl) _).setCell (.inr fun h => h rfl) _).setCell (.inr fun h => h rfl) _).setCell (.inr fun h => h rfl) _)).heap (heap_one (x := .slice va pre.length vc) HB6 _) gM
                  · exact owns_last (owns_kept HO6.out ((Keeps.refl (fun k => k ≠ w3.heap.size) _).setCell (.inr fun h => h rfl) _) (fun k hk => by obtain rfl : g = k := Option.some.inj hk; exact gN)) HX4 _ _ _ _
                exact AllReadyIn.nil
              exact AllReadyIn.nil
            refine AllReadyIn.cons rfl (fun K hK => ?_) ?_
            · go_simp
              refine hK _ _ ?_; clear hK K
              refine wpAnyIn_ready (rs := [5]) (by kernel_rfl) (by simp) ?_
              refine AllReadyIn.cons rfl (fun K hK => ?_) ?_
              · go_simp
                refine hK _ _ ?_; clear hK K
                refine wpAnyIn_ready (rs := [6]) (by kernel_rfl) (by simp) ?_
                refine AllReadyIn.cons rfl (fun K hK => ?_) ?_
                · go_simp
                  refine hK _ _ ?_; clear hK K
                  refine wpAnyIn_done (by kernel_rfl) ?_ _
                  refine HF.out _ ?_ ?_ ?_
                  · exact (((((Keeps.refl _ W6).setCell (.inr fun h => h.1 rfl) _).setCell (.inr fun h => h.2 rfl) _).setCell (.inr fun h => h.2 rfl) _).setCell (.inr fun h => h.2 rfl) _).setCell (.inr fun h => h.2 rfl) _
                  · exact ((((((Keeps.refl (fun k => k ≠ g) _).setCell (.inr fun h => h rfl) _).setCell (.inr fun h => h rfl) _).setCell (.inr fun h => h rfl) _).setCell (.inr fun h => h rfl) _)).heap (heap_one (x := .slice va pre.length vc) HB6 _) gM
                  · exact owns_last (owns_kept HO6.out ((Keeps.refl (fun k => k ≠ w3.heap.size) _).setCell (.inr fun h => h rfl) _) (fun k hk => by obtain rfl : g = k := Option.some.inj hk; exact gN)) HX4 _ _ _ _
                exact AllReadyIn.nil
              exact AllReadyIn.nil
            exact AllReadyIn.nil
          · exact AllReadyIn.nil
      · have HF : Hid (ownPostP (BodyS (DtE S (w3.heap.size + 1)) (fun k => k = Pb) w5.heap.size) (AInv w Pb w3.heap.size (w5.heap.size + 2)) (AEx w Pb) (pre ++ [x]) A .ret { tmps := #[], defers := [] } (set5 A w.heap.size (.int .i64 0) (.string ⟨#[]⟩) (.int .i64 0) (.slice none 0 0) (.int .i64 x.c))) := Lib.hid (by
          obtain ⟨g0, g1⟩ := heap_five hba hbe (.int .i64 0) (.string ⟨#[]⟩) (.int .i64 0) (.slice none 0 0) (.int .i64 x.c)
          have h8 := HENV.out.size
          refine ⟨keeps_set5 (Keeps.refl _ A) (.inr ⟨?_, ?_⟩) _ _ _ _ _, rfl, ⟨pre, x, rfl, hc0, g1⟩, keeps_set5 hkw (.inl (Nat.le_refl _)) _ _ _ _ _, g0⟩
          · rintro ((h | h | h) | h | h | h)
            · have := HSlt.out _ h; omega
            · omega
            · omega
            · omega
            · omega
            · omega
          · rintro ((h | h | h) | h | h | h)
            · have := HSlt.out _ h; omega
            · omega
            · omega
            · omega
            · omega
            · omega)
        clear hv hrow hreps hkw hba hbe hcx hT hq
        gi_wp2
        exact HF.out
    case done =>
      rintro D xs A hD hDs - hSx ⟨⟨v, hv, hrow, hreps⟩, hkw, hba, hbe⟩ hDd
      obtain ⟨t, hm, hst⟩ : ∃ t, Rp.manyP f m r = .ok (xs.map EV.r) t ∧ Rst S Pb A t := by
        rcases hSx with ⟨_, t, h1, h2⟩ | ⟨x, hx, hc⟩
        · exact ⟨t, h1, h2⟩
        · exact absurd (hreps x hx).1 hc
      have hxl : xs.length ≤ 65536 := by
        have := manyP_len hm
        rw [List.length_map] at this
        omega
      obtain ⟨al, cl, rfl, hrep⟩ := row_rep hrow hxl (fun x hx => (hreps x hx).2.mono fun k h _ => h.1)
      have HRR : Hid (Rp.arrD f bs = .ok (.mk 6 [] 0 (xs.map EV.r)) t) := Lib.hid (by rw [HR.out, hm]; rfl)
      obtain ⟨b0, b1, b2, b3, f0, f1, f2, f3⟩ := cells_four' hba
      have e0 := Boxed.cell hbe
      have e1 := Boxed.frozen hbe
      have l0 := hv.cell
      have hz := heap_five hba hbe (.int .i64 6) (.string ⟨#[]⟩) (.int .i64 0) (.slice al xs.length cl) (.int .i64 0)
      have hk5 : Keeps (fun k => k ≠ w.heap.size ∧ k ≠ w.heap.size + 1) A (set5 A w.heap.size (.int .i64 6) (.string ⟨#[]⟩) (.int .i64 0) (.slice al xs.length cl) (.int .i64 0)) := keeps_set5 (Keeps.refl _ A) (.inr ⟨fun h => h.1 rfl, fun h => h.2 rfl⟩) _ _ _ _ _
      have HZ : Hid (∃ W', (Instr.takeDeferred D).run Tryd.prog (set5 A w.heap.size (.int .i64 6) (.string ⟨#[]⟩) (.int .i64 0) (.slice al xs.length cl) (.int .i64 0)) = .ok [] W' ∧ W'.heap[w.heap.size]? = some (.cells #[.int .i64 6, .string ⟨#[]⟩, .int .i64 0, .slice al xs.length cl] 24 (0, 0)) ∧ W'.heap[w.heap.size + 1]? = some (.cells #[.int .i64 0] 32 (0, 0)) ∧
          ROut S Pb w (.ok (.mk 6 [] 0 (xs.map EV.r)) t) (.returned (.tuple #[.agg #[.int .i64 6, .string ⟨#[]⟩, .int .i64 0, .slice al xs.length cl], .int .i64 0])) W') := Lib.hid (by
        have hDd' := hk5.heap hDd (by omega)
        have hkD : Keeps (fun k => k ≠ D) (set5 A w.heap.size (.int .i64 6) (.string ⟨#[]⟩) (.int .i64 0) (.slice al xs.length cl) (.int .i64 0)) ((set5 A w.heap.size (.int .i64 6) (.string ⟨#[]⟩) (.int .i64 0) (.slice al xs.length cl) (.int .i64 0)).putObj D (.deferred none)) := (Keeps.refl _ _).putObj (fun h => h rfl) _
        refine ⟨_, run_takeDeferred hDd', hkD.heap hz.1 (by omega), hkD.heap hz.2 (by omega), ?_, ⟨_, rfl, ?_⟩, ?_⟩
        · exact Keeps.trans_lt (keeps_set5 hkw (.inl (Nat.le_refl _)) _ _ _ _ _) hkD (fun i hi _ => by omega)
        · refine Rep.keeps (Keeps.trans_lt (T := fun k => w5.heap.size + 2 ≤ k) (hk5.mono fun k _ (h : w5.heap.size + 2 ≤ k) => by omega) hkD (fun i _ (h : w5.heap.size + 2 ≤ i) => by omega)) (fun k (h : w5.heap.size + 2 ≤ k) _ => by omega) _ _ hrep
        · exact (hst.keeps hk5 (fun k hk => by have := HSlt.out k hk; omega) (by omega)).keeps hkD (fun k hk => by have := HSlt.out k hk; omega) (by omega))
      clear hSx hv hrow hreps hkw hba hbe hDd hm hst hrep hz hk5
      gi_wp2
      obtain ⟨W', h1, h2, h3, h4⟩ := HZ.out
      obtain ⟨g0, g1, g2, g3⟩ := cells_four h2
      refine ⟨by simp, .inl ⟨_, _, rfl, h1, ?_⟩⟩
      refine ⟨_, results_cell2 (t := 4) (T := 24) (u := 5) (U := 32) (p := ⟨w.heap.size, 0, none⟩) (q := ⟨w.heap.size + 1, 0, none⟩) rfl rfl (loadVar24 _ _ _ _ _ _ g0 g1 g2 g3) rfl (loadVar32 _ _ _ (Boxed.cell h3)), ?_⟩
      rw [HRR.out]
      exact h4
    case stop =>
      rintro D c pre A hD hDs - ⟨p', x', hp', hm⟩ ⟨rfl, ⟨p, x, hp, hxc, hbe⟩, hkw, hba⟩ hDd
      obtain rfl : x = x' := by
        rw [hp] at hp'
        exact List.singleton_inj.1 (List.append_inj' hp' rfl).2
      have HRR : Hid (Rp.arrD f bs = .err x.c) := Lib.hid (by rw [HR.out, hm hxc]; rfl)
      obtain ⟨b0, b1, b2, b3⟩ := cells_four hba
      have e0 := Boxed.cell hbe
      have hk : Keeps (fun k => k ≠ D) A (A.putObj D (.deferred none)) := (Keeps.refl _ _).putObj (fun h => h rfl) _
      gi_wp2
      obtain ⟨g0, g1, g2, g3⟩ := cells_four (hk.heap hba (by omega))
      refine ⟨by simp, .inl ⟨_, _, rfl, run_takeDeferred hDd, ?_⟩⟩
      refine ⟨_, results_cell2 (t := 4) (T := 24) (u := 5) (U := 32) (p := ⟨w.heap.size, 0, none⟩) (q := ⟨w.heap.size + 1, 0, none⟩) rfl rfl (loadVar24 _ _ _ _ _ _ g0 g1 g2 g3) rfl (loadVar32 _ _ _ (Boxed.cell (hk.heap hbe (by omega)))), ?_⟩
      rw [HRR.out]
      exact ⟨Keeps.trans_lt hkw hk (fun i hi _ => by omega), hxc, _, _, _, _, _, _, rfl⟩
end Go.Proofs.YtcjbfgkmpoebgaaDoor
