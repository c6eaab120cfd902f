/- The contracts of sets.chosen and of the iterator that it hands out. -/
import Derived.Test.YtekdmnecjgpokaaStElems
namespace Go.Proofs.Ytekdmnecjgpokaa
open Go.RowKit Go.Shelf
attribute [local go_sem] Oper.semAt_some
set_option linter.unusedVariables false
set_option linter.unusedSimpArgs false

/-- a test of sides. -/
def TestOf (gw : Nat) (f : Bool → Bool → Bool) : Prop := (∀ args W, (callFunc gw args).run Try.prog W = .ok (.enter gw args) W) ∧ ∀ (p q : Bool) (W : World), Calls Try.prog gw #[.agg #[.bool p, .bool q]] W fun e W' => e = .returned (.bool (f p q)) ∧ Below W.heap.size W W'

set_option maxHeartbeats 1000000 in
theorem and_test : TestOf 29 St.andF := by
  refine ⟨enters_of Try.func29 (by kernel_rfl) rfl, fun p q W => ?_⟩
  cases p <;> cases q <;>
    (go_enter Try.func29, Try.ntmps29
     go_wp2
     go_ret
     exact ⟨rfl, (Below.refl _ _).alloc (Nat.le_refl _) _⟩)
set_option maxHeartbeats 1000000 in
theorem not_test : TestOf 31 St.notF := by
  refine ⟨enters_of Try.func31 (by kernel_rfl) rfl, fun p q W => ?_⟩
  cases p <;> cases q <;>
    (go_enter Try.func31, Try.ntmps31
     go_wp2
     go_ret
     exact ⟨rfl, (Below.refl _ _).alloc (Nat.le_refl _) _⟩)
set_option maxHeartbeats 1000000 in
theorem or_test : TestOf 40 St.orF := by
  refine ⟨enters_of Try.func40 (by kernel_rfl) rfl, fun p q W => ?_⟩
  cases p <;> cases q <;>
    (go_enter Try.func40, Try.ntmps40
     go_wp2
     go_ret
     exact ⟨rfl, (Below.refl _ _).alloc (Nat.le_refl _) _⟩)

/-- what chosen lays. -/
def chW (w : World) (a b : Option Addr) (n m ca cb gw : Nat) : World := ((w.alloc (.cells #[.slice a n ca] 25)).alloc (.cells #[.slice b m cb] 25)).alloc (.cells #[.func (.func gw) #[] #[]] 50)

set_option maxHeartbeats 1000000 in
theorem chosen_any (w : World) (a b : Option Addr) (n m ca cb gw : Nat) :
    CallsIn Fence.wide 0 Try.prog 28 #[.slice a n ca, .slice b m cb, .func (.func gw) #[] #[]] w fun e w' =>
      e = .returned (.func (.func 38) #[] #[.pointer (some ⟨w.heap.size, 0, none⟩), .pointer (some ⟨w.heap.size + 1, 0, none⟩), .pointer (some ⟨w.heap.size + 2, 0, none⟩)]) ∧ w' = chW w a b n m ca cb gw := by
  refine callsIn_of_wp Try.func28 rfl trivial ?_ rfl
  simp only [Try.ntmps28, List.size_toArray, List.length_cons, List.length_nil, Nat.reduceAdd, Nat.reduceSub, Array.replicate_succ, Array.replicate_zero, List.push_toArray, List.append_toArray, List.nil_append, List.cons_append]
  gi_wp2
  go_ret
  exact ⟨rfl, rfl⟩

/-- the elements whose sides pass. -/
def selK (f : Bool → Bool → Bool) (l : List St.El) : List St.Bs := (l.filter fun e => f e.2.1 e.2.2).map (·.1)
theorem selK_no {f : Bool → Bool → Bool} {l : List St.El} {x : St.Bs} {p q : Bool} (h : f p q = false) : selK f (l ++ [(x, p, q)]) = selK f l := by simp [selK, h]
theorem selK_yes {f : Bool → Bool → Bool} {l : List St.El} {x : St.Bs} {p q : Bool} (h : f p q = true) : selK f (l ++ [(x, p, q)]) = selK f l ++ [x] := by simp [selK, h]
theorem selK_le (f : Bool → Bool → Bool) (l : List St.El) : (selK f l).length ≤ l.length := by
  unfold selK
  rw [List.length_map]
  exact List.length_filter_le _ _

/-- between two elements: chosen's own yield, the test, and the caller's invariant. -/
def ChInv (B Bw l gw : Nat) (f : Bool → Bool → Bool) (J : (Nat → Prop) → List St.Bs → World → Prop) (O : Nat → Prop) (pre : List St.El) (A : World) : Prop :=
  Boxed A B 52 (.func (.yield l) #[] #[]) ∧ Boxed A Bw 50 (.func (.func gw) #[] #[]) ∧ (∀ k, O k → B + 5 ≤ k) ∧ J O (selK f pre) A

theorem ChInv.abides {B Bw l gw : Nat} {f : Bool → Bool → Bool} {J : (Nat → Prop) → List St.Bs → World → Prop} (hn : Bw < B) (hJ : AbidesT B (fun _ => False) J) : AbidesT (B + 3) (fun _ => False) (ChInv B Bw l gw f J) := by
  rintro O s A C ⟨h1, h2, hO, hj⟩ hk
  exact ⟨hk.heap h1 ⟨id, .inl (by omega)⟩, hk.heap h2 ⟨id, .inl (by omega)⟩, hO, hJ _ _ _ _ hj (hk.mono fun k _ h => ⟨h.1, h.2.imp (fun h => by omega) id⟩)⟩

/-- the variable that a round has for an element's sides. -/
def SdVar (D : Nat) (K : Nat → St.El → Act) (O : Nat → Prop) (x : St.El) (a' : Act) (A : World) : Prop := ∃ Bx, D ≤ Bx ∧ ¬ O Bx ∧ SdBox A Bx x.2.1 x.2.2 ∧ a' = K Bx x

set_option maxRecDepth 100000 in
set_option maxHeartbeats 4000000 in
theorem chosen_seq (Bp gw : Nat) (f : Bool → Bool → Bool) (a b : Option Addr) (ca cb : Nat) (xs ys : List St.Bs) (w : World) (hw : TestOf gw f) (h1 : Boxed w Bp 25 (.slice a xs.length ca)) (h1' : Boxed w (Bp + 1) 25 (.slice b ys.length cb)) (h1'' : Boxed w (Bp + 2) 50 (.func (.func gw) #[] #[]))
    (h2 : Wds w a ca xs) (h3 : Wds w b cb ys) (hn : xs.length ≤ 500000) (hm : ys.length ≤ 500000) (hok : ∀ s ∈ xs, OkW s) (hok2 : ∀ s ∈ ys, OkW s) :
    SeqB OkW false Try.prog 38 #[.pointer (some ⟨Bp, 0, none⟩), .pointer (some ⟨Bp + 1, 0, none⟩), .pointer (some ⟨Bp + 2, 0, none⟩)] encW (fun k => k < w.heap.size) (fun _ => False) (fun zs => zs = St.selS f xs ys) (fun _ => False) (xs.length + ys.length) w := by
  intro l J Jx W hW hJ _ hst hY h0
  have HX : Hid (∀ O s A, ¬ Jx O s A) := Lib.hid (hst rfl)
  clear hst
  have hsz := hW.size
  have hBp : Bp + 2 < w.heap.size := h1''.lt
  have g1 : Boxed W Bp 25 (.slice a xs.length ca) := (hW.block _ (by omega)).trans h1
  have g2 : Boxed W (Bp + 1) 25 (.slice b ys.length cb) := (hW.block _ (by omega)).trans h1'
  have g3 : Boxed W (Bp + 2) 50 (.func (.func gw) #[] #[]) := (hW.block _ (by omega)).trans h1''
  have c1 := (g1.alloc (.cells #[.func (.yield l) #[] #[]] 52)).cell
  have c2 := (g2.alloc (.cells #[.func (.yield l) #[] #[]] 52)).cell
  obtain ⟨W0, hW0⟩ : ∃ W0, W.alloc (.cells #[.func (.yield l) #[] #[]] 52) = W0 := ⟨_, rfl⟩
  have hs0 : W0.heap.size = W.heap.size + 1 := by rw [← hW0]; simp
  have gy : Boxed W0 W.heap.size 52 (.func (.yield l) #[] #[]) := by rw [← hW0]; exact Boxed.new W _ _
  have hk0 : ∀ R, Keeps R W W0 := fun R => by rw [← hW0]; exact (Keeps.refl R W).alloc _
  obtain ⟨W2, hW2⟩ : ∃ W2, (W0.alloc (.cells #[.slice a xs.length ca] 25)).alloc (.cells #[.slice b ys.length cb] 25) = W2 := ⟨_, rfl⟩
  have hs2 : W2.heap.size = W.heap.size + 3 := by rw [← hW2]; simp; omega
  have hk2 : ∀ R, Keeps R W W2 := fun R => by rw [← hW2]; exact ((hk0 R).alloc _).alloc _
  have hb2 : Below w.heap.size w W2 := hW.trans (((hk2 (fun _ => True)).below (Nat.le_refl _) (fun _ _ => trivial)).mono hsz)
  have e1 : Boxed W2 (W.heap.size + 1) 25 (.slice a xs.length ca) := by rw [← hW2, ← hs0]; exact (Boxed.new W0 _ _).alloc _
  have e2 : Boxed W2 (W.heap.size + 1 + 1) 25 (.slice b ys.length cb) := by
    rw [← hW2, ← hs0]
    have := Boxed.new (W0.alloc (.cells #[.slice a xs.length ca] 25)) 25 (.slice b ys.length cb)
    rwa [World.size_alloc] at this
  have hin := elements_seq (W.heap.size + 1) a b ca cb xs ys W2 e1 e2 (h2.later hb2) (h3.later hb2) hn hm hok hok2 (fun k => k < w.heap.size) (fun b' off ha h0 => by
      obtain ⟨b'', off', ha', hb, -⟩ := h2.get h0
      rw [ha] at ha'; cases ha'; exact hb) (fun b' off ha h0 => by
      obtain ⟨b'', off', ha', hb, -⟩ := h3.get h0
      rw [ha] at ha'; cases ha'; exact hb)
  have hel := elements_any (.slice a xs.length ca) (.slice b ys.length cb) W0 a b xs.length ys.length ca cb rfl rfl
  rw [hs0, hW2] at hel
  rw [hW0] at c1 c2
  have hI := ChInv.abides (l := l) (gw := gw) (f := f) (Bw := Bp + 2) (B := W.heap.size) (by omega) hJ
  have hi0 : ChInv W.heap.size (Bp + 2) l gw f J (fun _ => False) [] W2 :=
    ⟨by rw [← hW2]; exact (gy.alloc _).alloc _, (hk2 (fun _ => True)).heap g3 trivial, fun _ h => h.elim, hJ _ _ _ _ h0 (hk2 _)⟩
  rw [← hs2] at hI
  have HY := Lib.hid hY
  have HEl := Lib.hid hel
  have HIn := Lib.hid hin
  have HB2 := Lib.hid hb2
  have HI0 := Lib.hid hi0
  have HII := Lib.hid hI
  have HW0 := Lib.hid hW0
  have HTst := Lib.hid hw
  clear hY h1 h1' h1'' g1 g2 g3 h2 h3 hok hok2 hW0 gy hk0 hW2 hk2 hb2 e1 e2 hin hel hI hi0 hw
  refine callsIn_of_wp_marks Try.func38 rfl trivial ?_ rfl
  simp only [Try.ntmps38, List.size_toArray, List.length_cons, List.length_nil, Nat.reduceAdd, Nat.reduceSub, Array.replicate_succ, Array.replicate_zero, List.push_toArray, List.append_toArray, List.nil_append, List.cons_append]
  gi_wp2_with (rw [HW0.out]; gi_wp2_with fail)
  refine ⟨trivial, rfl, ?_⟩
  refine HEl.out.mono ?_
  rintro e w2 ⟨rfl, rfl⟩
  clear c1 c2
  gi_wp2_with fail
  refine wpIn_rangeB (gf := 45) (lb := #[.pointer (some ⟨W.heap.size + 1, 0, none⟩), .pointer (some ⟨W.heap.size + 1 + 1, 0, none⟩)]) rfl (enters_of Try.func45 (by kernel_rfl) rfl) HIn.out (Below.refl _ _) (fun k hk => by omega) (fun k hk => hk.elim) (fun _ => rfl) (ChInv W.heap.size (Bp + 2) l gw f J) (fun _ _ _ _ => False) HII.out (fun _ _ _ _ _ h _ => h) (fun _ _ _ _ _ h => h) HI0.out
    (SdVar (w2.heap.size + 2) (fun Bx x => { tmps := #[.func (.yield l) #[] #[], .pointer (some ⟨Bp, 0, none⟩), .pointer (some ⟨Bp + 1, 0, none⟩), .pointer (some ⟨Bp + 2, 0, none⟩), .pointer (some ⟨W.heap.size, 0, none⟩), .string ⟨x.1.toArray⟩, .pointer (some ⟨Bx, 0, none⟩), .slice a xs.length ca, .slice b ys.length cb, .func (.func 45) #[] #[.pointer (some ⟨W.heap.size + 1, 0, none⟩), .pointer (some ⟨W.heap.size + 1 + 1, 0, none⟩)], .string ⟨x.1.toArray⟩, .agg #[.bool x.2.1, .bool x.2.2], undef, undef, undef, undef, undef, undef, undef, undef, undef], defers := [] }))
    ?hAx ?assign ?body ?done ?stop
  case hAx =>
    rintro O x a' A C ⟨Bx, q1, q2, q3, rfl⟩ hk
    exact ⟨Bx, q1, q2, q3.keep hk (by omega), rfl⟩
  case assign =>
    intro O pre x A K hO hA hi hK
    have HK := Lib.hid hK
    have HI : Hid (∀ o, ChInv W.heap.size (Bp + 2) l gw f J O pre (A.alloc o)) := Lib.hid fun o => HII.out _ _ _ _ hi ((Keeps.refl _ _).alloc _)
    have HO := Lib.hid hO
    clear hK hi hO
    obtain ⟨x, p, q⟩ := x
    unfold encM
    gi_wp2
    exact HK.out _ _ ((Keeps.refl _ _).alloc _) (HI.out _) ⟨A.heap.size, hA, fun h => by have := (HO.out _ h).2; omega, SdBox.new A p q, rfl⟩
  case body =>
    rintro O pre x a' A hO hA ⟨r, hr⟩ ⟨hy1, hw1, hOB, hJO⟩ ⟨Bx, hBx, hnO, hcx, rfl⟩ hlen hT
    obtain ⟨x, p, q⟩ := x
    have b1 := hy1.cell
    have b2 := hw1.cell
    obtain ⟨b3, b4, -, -⟩ := hcx.at
    simp only at b3 b4 hT
    have HJO := Lib.hid hJO
    have HOB := Lib.hid hOB
    have HO := Lib.hid hO
    have HY1 := Lib.hid hy1
    have HN1 := Lib.hid hw1
    clear hJO hOB hO hy1 hw1 hcx hr
    have hent := HTst.out.1
    gi_wp2_with fail
    refine ⟨trivial, rfl, ?_⟩
    refine (in_round (HTst.out.2 p q A)).mono ?_
    rintro e A2 ⟨rfl, hb⟩
    have c1 := (hb.cell (p := ⟨W.heap.size, 0, none⟩) (by have := HY1.out.lt; exact this)).trans b1
    have hz2 := hb.size
    have hkA : Keeps (fun _ => True) A A2 := Keeps.of_below hb fun _ h _ => h
    have HKA := Lib.hid hkA
    have HJ2 := Lib.hid (HII.out _ _ _ _ ⟨HY1.out, HN1.out, HOB.out, HJO.out⟩ (hkA.mono fun _ _ _ => trivial))
    clear hb hkA b1 b2 b3 b4 hent
    have hzA : W.heap.size + 5 ≤ A.heap.size := by omega
    cases hf : f p q with
    | false =>
      have HS := Lib.hid (selK_no (f := f) (l := pre) (x := x) hf)
      clear hf
      gi_wp2
      refine ⟨fun _ h => (by cases h), ?_⟩
      gi_wp2
      obtain ⟨j1, j2, j3, j4⟩ := HJ2.out
      exact ⟨HKA.out.mono fun _ _ _ => trivial, O, fun k hk => ⟨Nat.lt_of_lt_of_le (HO.out k hk).2 hz2, .inl hk⟩, j1, j2, j3, by rw [HS.out]; exact j4⟩
    | true =>
      have HS := Lib.hid (selK_yes (f := f) (l := pre) (x := x) hf)
      have hle := selK_le f pre
      clear hf
      obtain ⟨fn, tmps, assign, body, hy, hR⟩ := HY.out O (selK f pre) x A2 (fun k hk => ⟨by have := HOB.out k hk; omega, Nat.lt_of_lt_of_le (HO.out k hk).2 hz2⟩) (by omega) HJ2.out.2.2.2 (by omega) hT
      have HR := Lib.hid hR
      unfold encW at hy
      clear hle hR
      gi_wp2
      refine ⟨rfl, HR.out.mono ?_⟩
      rintro e W3 ⟨hk3, O', hg3, hout⟩
      rcases hout with ⟨rfl, hJ3⟩ | ⟨rfl, hJx3⟩
      rotate_left
      · exact (HX.out _ _ _ hJx3).elim
      have HK3 := Lib.hid hk3
      have HG3 := Lib.hid hg3
      have HJ3 := Lib.hid hJ3
      clear hk3 hg3 hJ3 hy
      gi_wp2
      have hkk : Keeps (RoundS (fun k => k < w.heap.size) (fun _ => False) w2.heap.size O) A W3 := (HKA.out.mono fun _ _ _ => trivial).trans (HK3.out.mono fun k _ h => by
        rcases h with h | h | h
        · exact .inl h
        · exact h.elim
        · exact .inr (.inr ⟨by omega, h.2⟩))
      obtain ⟨j1, j2, -, -⟩ := HJ2.out
      refine ⟨hkk, O', fun k hk => ⟨(HG3.out k hk).1, (HG3.out k hk).2.imp id fun h => by omega⟩, HK3.out.heap j1 (.inr (.inr ⟨Nat.le_refl _, fun h => by have := HOB.out _ h; omega⟩)), HK3.out.heap j2 (.inl (by omega)), fun k hk => ?_, by rw [HS.out]; exact HJ3.out⟩
      rcases (HG3.out k hk).2 with h | h
      · exact HOB.out k h
      · omega
  case done =>
    rintro O D zs A hD hDs hO hnP rfl ⟨hy1, hn1, hOB, hJO⟩ hDd
    gi_wp2
    refine ⟨by simp, .inl ⟨_, _, rfl, run_takeDeferred hDd, ?_⟩⟩
    refine ⟨_, results_none rfl _ _ _, ?_⟩
    have hp : ∀ S', ¬ S' D → Keeps S' A (A.putObj D (.deferred none)) := fun S' h => (Keeps.refl _ _).putObj h _
    refine ⟨⟨_, rfl⟩, by have := (hp (fun _ => False) id).size; omega, O, fun k hk => ⟨by have := hOB k hk; omega, Nat.lt_of_lt_of_le (hO k hk).2 (hp (fun _ => False) id).size⟩, .inl ⟨_, rfl, ?_⟩⟩
    exact hJ _ _ _ _ hJO (hp _ (fun h => by rcases h.2 with h | h; · omega
                                            · have := (hO D h).1; omega))
  case stop =>
    rintro O D c pre A _ _ _ _ h _ _
    exact h.elim
end Go.Proofs.Ytekdmnecjgpokaa
