/- The contract of spans.chosen, and of spans.Minus: the iterator gives the wanted pieces. -/
import Derived.Test.YtlbmkgnfbkimaaaDoorPieces
namespace Go.Proofs.YtlbmkgnfbkimaaaDoor
namespace ChMinus
open Go.RowKit Go.Shelf
attribute [local go_sem] Oper.semAt_some

def want (x y : Bool) : Bool := x && !y

set_option maxHeartbeats 1000000 in
theorem want_any (x y : Bool) (w : World) : CallsIn Fence.wide 0 Tryd.prog 43 #[.agg #[.bool x, .bool y]] w fun e w' => e = .returned (.bool (want x y)) ∧ Below w.heap.size w w' := by
  cases x <;> cases y <;>
  · refine callsIn_of_wp Tryd.func43 rfl trivial ?_ rfl
    simp only [Tryd.ntmps43, List.size_toArray, List.length_cons, List.length_nil, Nat.reduceAdd, Nat.reduceSub, Array.replicate_succ, Array.replicate_zero, List.push_toArray, List.append_toArray, List.nil_append, List.cons_append]
    gi_wp2
    go_ret
    exact ⟨rfl, (Below.refl _ w).alloc (Nat.le_refl _) _⟩

/-- between two pieces: the caller's yield, the wish, and the caller's invariant. -/
def HInv (B l Bw : Nat) (J : (Nat → Prop) → List Sp.V → World → Prop) (O : Nat → Prop) (pre : List Sp.PV) (A : World) : Prop :=
  A.heap[B]? = some (.cells #[.func (.yield l) #[] #[]] 52 (0, 0)) ∧
  A.heap[Bw]? = some (.cells #[.func (.func 43) #[] #[]] 67 (0, 0)) ∧
  (∀ k, O k → B + 5 ≤ k) ∧ J O (Sp.keepP want pre) A

theorem HInv.abides {B l Bw : Nat} {J : (Nat → Prop) → List Sp.V → World → Prop} {Pv : Nat → Prop} (hBw : Bw < B) (hPw : ¬ Pv Bw) (hPv : ∀ k, Pv k → k < B) (hJ : AbidesT B Pv J) : AbidesT (B + 1 + 1 + 1) Pv (HInv B l Bw J) := by
  rintro O s A C ⟨h1, h2, hO, hj⟩ hk
  exact ⟨hk.heap h1 ⟨fun hp => by have := hPv _ hp; omega, .inl (by omega)⟩, hk.heap h2 ⟨hPw, .inl (by omega)⟩, hO, hJ _ _ _ _ hj (hk.mono fun k _ h => ⟨h.1, h.2.imp (fun h => by omega) id⟩)⟩

/-- the loop's variables, boxed. -/
def HVar (B Ba Bb Bw l : Nat) (sa sb : Value) (O : Nat → Prop) (x : Sp.PV) (a' : Act) (A : World) : Prop :=
  ∃ Bx, B + 5 ≤ Bx ∧ ¬ O Bx ∧ ¬ O (Bx + 1) ∧ A.heap[Bx]? = some (.cells #[.int .i64 x.1.1.1, .int .i64 x.1.1.2] 39 (0, 0)) ∧ A.heap[Bx + 1]? = some (.cells #[.bool x.2.1, .bool x.2.2] 66 (0, 0)) ∧
    a' = { tmps := #[.func (.yield l) #[] #[], .pointer (some ⟨Ba, 0, none⟩), .pointer (some ⟨Bb, 0, none⟩), .pointer (some ⟨Bw, 0, none⟩), .pointer (some ⟨B, 0, none⟩), .pointer (some ⟨Bx, 0, none⟩), .pointer (some ⟨Bx + 1, 0, none⟩), sa, sb,
      .func (.func 67) #[] #[.pointer (some ⟨B + 1, 0, none⟩), .pointer (some ⟨B + 1 + 1, 0, none⟩)], .agg #[.int .i64 x.1.1.1, .int .i64 x.1.1.2], .agg #[.bool x.2.1, .bool x.2.2], undef, undef, undef, undef, undef, undef, undef, undef, undef], defers := [] }

set_option maxRecDepth 100000 in
set_option maxHeartbeats 4000000 in
theorem chosen_seq (Ba Bb Bw : Nat) (a1 a2 : Option Addr) (cap1 cap2 : Nat) (la lb : List Sp.S) (w : World) (hla : la.length ≤ 100000) (hlb : lb.length ≤ 100000) (hBa : Ba < w.heap.size) (hBb : Bb < w.heap.size)
    (hbxa : w.cell? ⟨Ba, 0, none⟩ = some (.slice a1 la.length cap1)) (hbxb : w.cell? ⟨Bb, 0, none⟩ = some (.slice a2 lb.length cap2)) (hbxw : w.heap[Bw]? = some (.cells #[.func (.func 43) #[] #[]] 67 (0, 0)))
    (hA : Spans w a1 cap1 la) (hB : Spans w a2 cap2 lb) (Dt Pv : Nat → Prop) (hDw : Dt Bw) (hPw : ¬ Pv Bw) (hDt : ∀ k, Dt k → k < w.heap.size) (hPv : ∀ k, Pv k → k < w.heap.size) :
    SeqT false Tryd.prog 54 #[.pointer (some ⟨Ba, 0, none⟩), .pointer (some ⟨Bb, 0, none⟩), .pointer (some ⟨Bw, 0, none⟩)] encS Dt Pv
      (fun ys => ∃ xs, Sp.PC (Sp.hasB (Sp.mixS 0 la [])) (Sp.hasB (Sp.mixS 0 lb [])) xs 16384 ∧ ys = Sp.keepP want xs) (fun _ => False) 16384 w := by
  intro l J Jx W hW hJ _ hst hY h0
  have HX : Hid (∀ O s A, ¬ Jx O s A) := Lib.hid (hst rfl)
  clear hst
  have hsz := hW.size
  have hBw : Bw < w.heap.size := (Array.getElem?_eq_some_iff.1 hbxw).1
  have hkW : ∀ o, Keeps (fun _ => True) W (W.alloc o) := fun o => (Keeps.refl _ _).alloc _
  have hx1 : (W.alloc (.cells #[.func (.yield l) #[] #[]] 52)).cell? ⟨Ba, 0, none⟩ = some (.slice a1 la.length cap1) := ((hkW _).cell (p := ⟨Ba, 0, none⟩) (Nat.lt_of_lt_of_le hBa hsz) trivial).trans ((hW.cell (p := ⟨Ba, 0, none⟩) hBa).trans hbxa)
  have hx2 : (W.alloc (.cells #[.func (.yield l) #[] #[]] 52)).cell? ⟨Bb, 0, none⟩ = some (.slice a2 lb.length cap2) := ((hkW _).cell (p := ⟨Bb, 0, none⟩) (Nat.lt_of_lt_of_le hBb hsz) trivial).trans ((hW.cell (p := ⟨Bb, 0, none⟩) hBb).trans hbxb)
  have hPvB : ∀ k, Pv k → k < W.heap.size := fun k hk => Nat.lt_of_lt_of_le (hPv k hk) hsz
  have hDtB : ∀ k, Dt k → k < W.heap.size := fun k hk => Nat.lt_of_lt_of_le (hDt k hk) hsz
  have hI := HInv.abides (l := l) (Nat.lt_of_lt_of_le hBw hsz) hPw hPvB hJ
  have HAS := Lib.hid (hA.later hW)
  have HBS := Lib.hid (hB.later hW)
  have HWB : Hid (W.heap[Bw]? = some (.cells #[.func (.func 43) #[] #[]] 67 (0, 0))) := Lib.hid ((hW.block Bw hBw).trans hbxw)
  clear hbxa hbxb hbxw hA hB
  refine callsIn_of_wp_marks Tryd.func54 rfl trivial ?_ rfl
  simp only [Tryd.ntmps54, List.size_toArray, List.length_cons, List.length_nil, Nat.reduceAdd, Nat.reduceSub, Array.replicate_succ, Array.replicate_zero, List.push_toArray, List.append_toArray, List.nil_append, List.cons_append]
  gi_wp2_with (refine ⟨trivial, rfl, ?_⟩; refine (pieces_any (.slice a1 la.length cap1) (.slice a2 lb.length cap2) _ ⟨_, _, _, rfl⟩ ⟨_, _, _, rfl⟩).mono ?_; rintro e w1 ⟨rfl, rfl⟩)
  obtain ⟨W0, hW0⟩ : ∃ W0, ((W.alloc (.cells #[.func (.yield l) #[] #[]] 52)).alloc (.cells #[.slice a1 la.length cap1] 22)).alloc (.cells #[.slice a2 lb.length cap2] 22) = W0 := ⟨_, rfl⟩
  have hs0 : W0.heap.size = W.heap.size + 1 + 1 + 1 := by rw [← hW0]; simp
  have hk0 : ∀ R, Keeps R W W0 := fun R => by rw [← hW0]; exact (((Keeps.refl R W).alloc _).alloc _).alloc _
  have hb0 : Below W.heap.size W W0 := (hk0 (fun _ => True)).below (Nat.le_refl _) (fun _ _ => trivial)
  have hbY : W0.heap[W.heap.size]? = some (.cells #[.func (.yield l) #[] #[]] 52 (0, 0)) := by
    rw [← hW0]
    exact (((Keeps.refl (fun _ => True) (W.alloc (.cells #[.func (.yield l) #[] #[]] 52))).alloc _).alloc _).heap (World.alloc_heap_new W _) trivial
  have hbA : W0.cell? ⟨W.heap.size + 1, 0, none⟩ = some (.slice a1 la.length cap1) := by
    rw [← hW0]
    have h := Boxed.new (W.alloc (.cells #[.func (.yield l) #[] #[]] 52)) 22 (.slice a1 la.length cap1)
    rw [World.size_alloc] at h
    exact (h.alloc _).cell
  have hbB : W0.cell? ⟨W.heap.size + 1 + 1, 0, none⟩ = some (.slice a2 lb.length cap2) := by
    rw [← hW0]
    have h := Boxed.new ((W.alloc (.cells #[.func (.yield l) #[] #[]] 52)).alloc (.cells #[.slice a1 la.length cap1] 22)) 22 (.slice a2 lb.length cap2)
    rw [World.size_alloc, World.size_alloc] at h
    exact h.cell
  have hbW : W0.heap[Bw]? = some (.cells #[.func (.func 43) #[] #[]] 67 (0, 0)) := (hk0 (fun _ => True)).heap HWB.out trivial
  have hin := pieces_seq (W.heap.size + 1) (W.heap.size + 1 + 1) a1 a2 cap1 cap2 la lb W0 hla hlb (by omega) (by omega) hbA hbB (HAS.out.later hb0) (HBS.out.later hb0) Dt Pv
  have hi0 : HInv W.heap.size l Bw J (fun _ => False) [] W0 := ⟨hbY, hbW, fun _ h => h.elim, hJ _ _ _ _ h0 (hk0 _)⟩
  rw [hW0]
  clear hx1 hx2 hkW hbA hbB hW0
  rw [← hs0] at hI
  refine wpIn_rangeT (gf := 67) (lb := #[.pointer (some ⟨W.heap.size + 1, 0, none⟩), .pointer (some ⟨W.heap.size + 1 + 1, 0, none⟩)]) rfl (enters_of Tryd.func67 (by kernel_rfl) rfl) hin (Below.refl _ _) ?hDt ?hPv (fun _ => rfl) (HInv W.heap.size l Bw J) (fun _ _ _ _ => False) hI (fun _ _ _ _ _ h _ => h) (fun _ _ _ _ _ h => h) hi0 (HVar W.heap.size Ba Bb Bw l (.slice a1 la.length cap1) (.slice a2 lb.length cap2)) ?hAx ?assign ?body ?done ?stop
  case hDt => intro k hk; have := hDtB k hk; omega
  case hPv => intro k hk; have := hPvB k hk; omega
  case hAx =>
    rintro O x a' A C ⟨Bx, h1, h2, h3, h4, h5, h6⟩ hk
    exact ⟨Bx, h1, h2, h3, hk.heap h4 (by rw [hs0]; omega), hk.heap h5 (by rw [hs0]; omega), h6⟩
  case assign =>
    intro O pre x A K hO hA hi hK
    rw [hs0] at hO hA
    have HK : Hid (∀ (a' : Act) (W' : World), Keeps (RoundS Dt Pv W0.heap.size O) A W' → HInv W.heap.size l Bw J O pre W' → HVar W.heap.size Ba Bb Bw l (.slice a1 la.length cap1) (.slice a2 lb.length cap2) O x a' W' → K a' W') := Lib.hid hK
    clear hK
    unfold encP
    gi_wp2
    refine HK.out _ _ (((Keeps.refl _ _).alloc _).alloc _) (hI _ _ _ _ hi (((Keeps.refl _ _).alloc _).alloc _)) ⟨A.heap.size, by omega, fun h => by have := hO _ h; omega, fun h => by have := hO _ h; omega, ?_, ?_, rfl⟩
    · exact ((Keeps.refl (fun _ => True) (A.alloc (.cells #[.int .i64 x.1.1.1, .int .i64 x.1.1.2] 39))).alloc _).heap (World.alloc_heap_new A _) trivial
    · have h := World.alloc_heap_new (A.alloc (.cells #[.int .i64 x.1.1.1, .int .i64 x.1.1.2] 39)) (.cells #[.bool x.2.1, .bool x.2.2] 66)
      rw [World.size_alloc] at h
      exact h
  case body =>
    rintro O pre x a' A hO hA ⟨r, hr⟩ ⟨hy1, hw1, hOB, hJO⟩ ⟨Bx, hBx, hnO, hnO2, hcx, hcd, rfl⟩ hlen
    rw [hs0] at hO hA
    have y1 := Boxed.cell hy1
    have q1 := Boxed.cell hw1
    obtain ⟨x1, x2, -, -⟩ := cells_two hcx
    obtain ⟨d1, d2, -, -⟩ := cells_two hcd
    have hAy : W.heap.size < A.heap.size := (Array.getElem?_eq_some_iff.1 hy1).1
    have hAx : Bx < A.heap.size := (Array.getElem?_eq_some_iff.1 hcx).1
    have hkl : (Sp.keepP want pre).length < 16384 := by
      have h1 := List.length_filter_le (fun p : Sp.PV => want p.2.1 p.2.2) pre
      unfold Sp.keepP
      rw [List.length_map]
      omega
    have hks := Sp.keepP_snoc want pre x
    have HKS := Lib.hid hks
    have HYY := Lib.hid (fun (w4 : World) (hb4 : Below A.heap.size A w4) => hY O (Sp.keepP want pre) x.1 w4 (fun k hk => ⟨by have := (hO k hk).1; omega, Nat.lt_of_lt_of_le (hO k hk).2 hb4.size⟩) (Nat.le_trans (by omega) hb4.size) (hJ _ _ _ _ hJO (Keeps.of_below hb4 fun k h _ => h)) hkl)
    have HIN : Hid (∀ w4, Below A.heap.size A w4 → HInv W.heap.size l Bw J O pre w4) := Lib.hid fun w4 hb4 => hI _ _ _ _ ⟨hy1, hw1, hOB, hJO⟩ (Keeps.of_below hb4 fun k h _ => h)
    clear hks hY
    by_cases hw : want x.2.1 x.2.2 = true
    · rw [if_pos hw] at HKS
      have HW := fun w => (want_any x.2.1 x.2.2 w).mono fun e w' h => (by rwa [hw] at h : e = .returned (.bool true) ∧ Below w.heap.size w w')
      have HWH := Lib.hid HW
      clear HW
      gi_wp2_with (refine ⟨trivial, rfl, ?_⟩; refine (HWH.out _).mono ?_; rintro e w3 ⟨rfl, hb⟩; have HB3 := Lib.hid hb
                   have e1 := (hb.cell (p := ⟨W.heap.size, 0, none⟩) hAy).trans y1
                   have e2 := (hb.cell (p := ⟨Bx, 0, none⟩) hAx).trans x1
                   have e3 := (hb.cell (p := ⟨Bx, 1, none⟩) hAx).trans x2
                   clear hb
                   obtain ⟨fn, tmps, assign, body, hy, hR⟩ := HYY.out w3 HB3.out
                   unfold encS at hy)
      refine ⟨rfl, hR.mono ?_⟩
      rintro e W3 ⟨hk3, O', hg3, (⟨rfl, hJ3⟩ | ⟨rfl, hJx3⟩)⟩
      · obtain ⟨i1, i2, _, _⟩ := HIN.out w3 HB3.out
        have s3 := HB3.out.size
        have fin : Keeps (RoundS Dt Pv W0.heap.size O) A W3 ∧ ∃ O', Grows O O' A W3 ∧ HInv W.heap.size l Bw J O' (pre ++ [x]) W3 := by
          refine ⟨(Keeps.of_below HB3.out fun k h _ => h).trans (hk3.mono fun k _ h => ?_), O', fun k hk => ⟨(hg3 k hk).1, (hg3 k hk).2.imp id (fun h => by omega)⟩, ?_, ?_, fun k hk => ?_, ?_⟩
          · rcases h with h | h | h
            · exact .inl h
            · exact .inr (.inl h)
            · exact .inr (.inr ⟨by omega, h.2⟩)
          · exact hk3.heap i1 (.inr (.inr ⟨Nat.le_refl _, fun ho => by have := hOB _ ho; omega⟩))
          · exact hk3.heap i2 (.inl hDw)
          · rcases (hg3 k hk).2 with h | h
            · exact hOB k h
            · omega
          · rw [HKS.out]; exact hJ3
        have HF := Lib.hid fin
        clear fin hk3 hg3 hJ3 i1 i2
        gi_wp2
        exact HF.out
      · exact (HX.out _ _ _ hJx3).elim
    · have hw' : want x.2.1 x.2.2 = false := by simpa using hw
      rw [if_neg hw, List.append_nil] at HKS
      have HW := fun w => (want_any x.2.1 x.2.2 w).mono fun e w' h => (by rwa [hw'] at h : e = .returned (.bool false) ∧ Below w.heap.size w w')
      have HWH := Lib.hid HW
      clear HW HYY hw hw'
      gi_wp2_with (refine ⟨trivial, rfl, ?_⟩; refine (HWH.out _).mono ?_; rintro e w3 ⟨rfl, hb⟩; have HB3 := Lib.hid hb; clear hb)
      try refine ⟨fun _ h => (by cases h), ?_⟩
      try gi_wp2
      obtain ⟨i1, i2, _, i4⟩ := HIN.out w3 HB3.out
      exact ⟨Keeps.of_below HB3.out fun k h _ => h, O, Grows.same (fun k hk => Nat.lt_of_lt_of_le (hO k hk).2 HB3.out.size), i1, i2, hOB, by rw [HKS.out]; exact i4⟩
  case done =>
    rintro O D xs A hD hDs hO hnP hSx ⟨hy1, hw1, hOB, hJO⟩ hDd
    rw [hs0] at hD
    gi_wp2
    refine ⟨by simp, .inl ⟨_, _, rfl, run_takeDeferred hDd, ?_⟩⟩
    refine ⟨_, results_none rfl _ _ _, ?_⟩
    have hp : ∀ S', ¬ S' D → Keeps S' A (A.putObj D (.deferred none)) := fun S' h => (Keeps.refl _ _).putObj h _
    refine ⟨⟨_, rfl⟩, by have := (hp (fun _ => False) id).size; omega, O, fun k hk => ⟨by have := hOB k hk; omega, Nat.lt_of_lt_of_le (hO k hk).2 (hp (fun _ => False) id).size⟩, .inl ⟨_, ⟨xs, hSx, rfl⟩, ?_⟩⟩
    exact hJ _ _ _ _ hJO (hp _ (fun h => by rcases h.2 with h | h; · omega
                                            · have := (hO D h).1; omega))
  case stop =>
    rintro O D c pre A _ _ _ _ h _ _
    exact h.elim

/-- what the wanted pieces, joined, say. -/
theorem joined_mix {la lb : List Sp.S} {xs : List Sp.PV} (h : Sp.PC (Sp.hasB (Sp.mixS 0 la [])) (Sp.hasB (Sp.mixS 0 lb [])) xs 16384) : Sp.bare (Sp.joinL (Sp.keepP want xs)) = Sp.mixS 1 la lb := by
  obtain ⟨h1, h2, _⟩ := Sp.PC.keep (want := want) h
  have hj := Sp.jok _ h2
  have hm := Sp.mixS_spec 1 la lb
  refine Sp.Valid.unique hj.valid hm.1 fun n => ?_
  rw [hj.same, h1, hm.2, Sp.mix0_has, Sp.mix0_has]
  rfl

set_option maxRecDepth 100000 in
set_option maxHeartbeats 4000000 in
theorem chosen_any (a1 a2 : Option Addr) (cap1 cap2 : Nat) (la lb : List Sp.S) (w : World) (hl : la.length + lb.length ≤ 100000) (hA : Spans w a1 cap1 la) (hB : Spans w a2 cap2 lb) :
    CallsIn Fence.wide 0 Tryd.prog 40 #[.slice a1 la.length cap1, .slice a2 lb.length cap2, .func (.func 43) #[] #[]] w fun e W' => ∃ a' cap', e = .returned (.slice a' (Sp.mixS 1 la lb).length cap') ∧ Spans W' a' cap' (Sp.mixS 1 la lb) ∧ Below w.heap.size w W' := by
  obtain ⟨W3, hW3⟩ : ∃ W3, (((w.alloc (.cells #[.slice a1 la.length cap1] 22)).alloc (.cells #[.slice a2 lb.length cap2] 22)).alloc (.cells #[.func (.func 43) #[] #[]] 67)).alloc (.cells #[.func (.func 54) #[] #[.pointer (some ⟨w.heap.size, 0, none⟩), .pointer (some ⟨w.heap.size + 1, 0, none⟩), .pointer (some ⟨w.heap.size + 1 + 1, 0, none⟩)]] 49) = W3 := ⟨_, rfl⟩
  have hs3 : W3.heap.size = w.heap.size + 1 + 1 + 1 + 1 := by rw [← hW3]; simp
  have hk : Keeps (fun _ => True) w W3 := by rw [← hW3]; exact ((((Keeps.refl _ w).alloc _).alloc _).alloc _).alloc _
  have hb : Below w.heap.size w W3 := hk.below (Nat.le_refl _) (fun _ _ => trivial)
  have b1 : W3.cell? ⟨w.heap.size, 0, none⟩ = some (.slice a1 la.length cap1) := by
    rw [← hW3]; exact ((((Boxed.new w 22 (.slice a1 la.length cap1)).alloc _).alloc _).alloc _).cell
  have b2 : W3.cell? ⟨w.heap.size + 1, 0, none⟩ = some (.slice a2 lb.length cap2) := by
    rw [← hW3]
    have h := Boxed.new (w.alloc (.cells #[.slice a1 la.length cap1] 22)) 22 (.slice a2 lb.length cap2)
    rw [World.size_alloc] at h
    exact ((h.alloc _).alloc _).cell
  have b3 : Boxed W3 (w.heap.size + 1 + 1) 67 (.func (.func 43) #[] #[]) := by
    rw [← hW3]
    have h := Boxed.new ((w.alloc (.cells #[.slice a1 la.length cap1] 22)).alloc (.cells #[.slice a2 lb.length cap2] 22)) 67 (.func (.func 43) #[] #[])
    rw [World.size_alloc, World.size_alloc] at h
    exact h.alloc _
  have b4 : W3.cell? ⟨w.heap.size + 1 + 1 + 1, 0, none⟩ = some (.func (.func 54) #[] #[.pointer (some ⟨w.heap.size, 0, none⟩), .pointer (some ⟨w.heap.size + 1, 0, none⟩), .pointer (some ⟨w.heap.size + 1 + 1, 0, none⟩)]) := by
    rw [← hW3]
    have h := Boxed.new (((w.alloc (.cells #[.slice a1 la.length cap1] 22)).alloc (.cells #[.slice a2 lb.length cap2] 22)).alloc (.cells #[.func (.func 43) #[] #[]] 67)) 49 (.func (.func 54) #[] #[.pointer (some ⟨w.heap.size, 0, none⟩), .pointer (some ⟨w.heap.size + 1, 0, none⟩), .pointer (some ⟨w.heap.size + 1 + 1, 0, none⟩)])
    rw [World.size_alloc, World.size_alloc, World.size_alloc] at h
    exact h.cell
  have hch := chosen_seq w.heap.size (w.heap.size + 1) (w.heap.size + 1 + 1) a1 a2 cap1 cap2 la lb W3 (by omega) (by omega) (by omega) (by omega) b1 b2 b3 (hA.later hb) (hB.later hb) (fun k => w.heap.size ≤ k ∧ k < W3.heap.size) (fun _ => False) ⟨by omega, by omega⟩ id (fun k h => h.2) (fun k h => h.elim)
  have hjo := joined_seq (w.heap.size + 1 + 1 + 1) 54 _ _ _ _ 16384 W3 W3 (enters_of Tryd.func54 (by kernel_rfl) rfl) hch (Below.refl _ _) (by omega) b4 (fun k h => h.2) (fun k h => h.elim) (by
    rintro ys ⟨xs, hx, rfl⟩
    have h1 := (Sp.PC.len hx).1
    have h2 := List.length_filter_le (fun p : Sp.PV => want p.2.1 p.2.2) xs
    unfold Sp.keepP
    rw [List.length_map]
    omega)
  have hc := collect_any 60 _ (enters_of Tryd.func60 (by kernel_rfl) rfl) _ _ 16384 W3 W3 (by omega) hjo (Below.refl _ _) (fun k h => h.2)
  have HC := Lib.hid hc
  have HB := Lib.hid hb
  clear hc hjo hch b1 b2 b3 b4 hk hb hA hB
  refine callsIn_of_wp Tryd.func40 rfl trivial ?_ rfl
  simp only [Tryd.ntmps40, List.size_toArray, List.length_cons, List.length_nil, Nat.reduceAdd, Nat.reduceSub, Array.replicate_succ, Array.replicate_zero, List.push_toArray, List.append_toArray, List.nil_append, List.cons_append]
  gi_wp2_with (refine ⟨trivial, rfl, ?_⟩; refine (joined_any _ _ _).mono ?_; rintro e w' ⟨rfl, rfl⟩)
  gi_wp2_with (refine ⟨trivial, rfl, ?_⟩; refine HC.out.mono ?_; rintro e w4 ⟨v, ys, ⟨xs, ⟨ps, hps, rfl⟩, rfl⟩, rfl, hrow, hnil, hB⟩; have HR := Lib.hid (And.intro hps (And.intro hrow hB)); clear hps hrow hnil hB)
  go_ret
  obtain ⟨hps, hrow, hB⟩ := HR.out
  have hjm := joined_mix hps
  have hlen : (Sp.joinL (Sp.keepP want ps)).length = (Sp.bare (Sp.joinL (Sp.keepP want ps))).length := by simp
  rw [hlen, hjm] at hrow
  have hm := mixS_len 1 la lb hl
  obtain ⟨a', cap', rfl, hsp, -⟩ := spans_of_row hrow (by omega) (by rw [← hjm]; exact bare_ints _)
  exact ⟨a', cap', rfl, hsp, HB.out.trans (hB.mono HB.out.size)⟩

set_option maxHeartbeats 1000000 in
/-- spans.Minus. -/
theorem any (a1 a2 : Option Addr) (cap1 cap2 : Nat) (la lb : List Sp.S) (w : World) (hl : la.length + lb.length ≤ 100000) (hA : Spans w a1 cap1 la) (hB : Spans w a2 cap2 lb) :
    Calls Tryd.prog 24 #[.slice a1 la.length cap1, .slice a2 lb.length cap2] w (Mixed 1 la lb w) := by
  refine (callsIn_wide (n := 0)).1 ?_
  have HC := Lib.hid (chosen_any a1 a2 cap1 cap2 la lb w hl hA hB)
  clear hA hB
  refine callsIn_of_wp Tryd.func24 rfl trivial ?_ rfl
  simp only [Tryd.ntmps24, List.size_toArray, List.length_cons, List.length_nil, Nat.reduceAdd, Nat.reduceSub, Array.replicate_succ, Array.replicate_zero, List.push_toArray, List.append_toArray, List.nil_append, List.cons_append]
  gi_wp2_with (refine ⟨trivial, rfl, ?_⟩; refine HC.out.mono ?_; rintro e w4 ⟨a', cap', rfl, hs, hb⟩; have HR := Lib.hid (And.intro hs hb); clear hs hb)
  go_ret
  exact ⟨a', cap', rfl, HR.out.1, HR.out.2⟩
end ChMinus
end Go.Proofs.YtlbmkgnfbkimaaaDoor
