/- The contracts of hash.without and of the iterator that it hands out. -/
import Derived.Test.YtfbfejeccfoioaaHsSeq
namespace Go.Proofs.Ytfbfejeccfoioaa
open Go.RowKit Go.Shelf
attribute [local go_sem] Oper.semAt_some
set_option linter.unusedVariables false
set_option linter.unusedSimpArgs false

abbrev Fd := List UInt8 × List UInt8

/-- an iterator that hands out these fields, and is not left. -/
def SeqL (gf : Nat) (lb : Array Value) (xs : List Fd) (N : Nat) (w : World) : Prop :=
  SeqB OkF false Try.prog gf lb encF (fun k => k < w.heap.size) (fun _ => False) (fun ys => ys = xs) (fun _ => False) N w

theorem SeqL.later {gf : Nat} {lb : Array Value} {xs : List Fd} {N : Nat} {w w' : World} (h : SeqL gf lb xs N w) (hb : Below w.heap.size w w') : SeqL gf lb xs N w' := by
  intro l J Jx W hW hJ hJx hst hY h0
  refine h l J Jx W (hb.trans (hW.mono hb.size)) hJ hJx hst ?_ h0
  intro O pre x W1 hO hs hj hN hT
  obtain ⟨fn, tmps, assign, body, hy, hR⟩ := hY O pre x W1 hO hs hj hN hT
  exact ⟨fn, tmps, assign, body, hy, hR.mono fun e W' ⟨hk, r⟩ => ⟨hk.mono fun k _ h => h.imp (fun h => Nat.lt_of_lt_of_le h hb.size) id, r⟩⟩

set_option maxHeartbeats 1000000 in
theorem without_any (gf : Nat) (lb : Array Value) (n : List UInt8) (w : World) :
    CallsIn Fence.wide 0 Try.prog 25 #[.func (.func gf) #[] lb, .string ⟨n.toArray⟩] w fun e w' =>
      e = .returned (.func (.func 29) #[] #[.pointer (some ⟨w.heap.size, 0, none⟩), .pointer (some ⟨w.heap.size + 1, 0, none⟩)]) ∧
      w' = (w.alloc (.cells #[.func (.func gf) #[] lb] 44)).alloc (.cells #[.string ⟨n.toArray⟩] 9) := by
  refine callsIn_of_wp Try.func25 rfl trivial ?_ rfl
  simp only [Try.ntmps25, List.size_toArray, List.length_cons, List.length_nil, Nat.reduceAdd, Nat.reduceSub, Array.replicate_succ, Array.replicate_zero, List.push_toArray, List.append_toArray, List.nil_append, List.cons_append]
  gi_wp2
  go_ret
  exact ⟨rfl, rfl⟩

theorem del_snoc_eq {pre : List Fd} {x : Fd} {n : List UInt8} (h : x.1 = n) : Hs.del (pre ++ [x]) n = Hs.del pre n := by simp [Hs.del, h]
theorem del_snoc_ne {pre : List Fd} {x : Fd} {n : List UInt8} (h : ¬ x.1 = n) : Hs.del (pre ++ [x]) n = Hs.del pre n ++ [x] := by simp [Hs.del, h]

/-- between two fields: without's own yield, the name, and the caller's invariant. -/
def OInv (B Bn l : Nat) (n : List UInt8) (J : (Nat → Prop) → List Fd → World → Prop) (O : Nat → Prop) (pre : List Fd) (A : World) : Prop :=
  Boxed A B 51 (.func (.yield l) #[] #[]) ∧ Boxed A Bn 9 (.string ⟨n.toArray⟩) ∧ (∀ k, O k → B + 3 ≤ k) ∧ J O (Hs.del pre n) A

theorem OInv.abides {B Bn l : Nat} {n : List UInt8} {J : (Nat → Prop) → List Fd → World → Prop} (hn : Bn < B) (hJ : AbidesT B (fun _ => False) J) : AbidesT (B + 1) (fun _ => False) (OInv B Bn l n J) := by
  rintro O s A C ⟨h1, h2, hO, hj⟩ hk
  exact ⟨hk.heap h1 ⟨id, .inl (by omega)⟩, hk.heap h2 ⟨id, .inl (by omega)⟩, hO, hJ _ _ _ _ hj (hk.mono fun k _ h => ⟨h.1, h.2.imp (fun h => by omega) id⟩)⟩

set_option maxRecDepth 100000 in
set_option maxHeartbeats 4000000 in
theorem without_seq (Bp gf : Nat) (lb : Array Value) (n : List UInt8) (xs : List Fd) (N : Nat) (w : World)
    (eg : ∀ args w, (callFunc gf args).run Try.prog w = .ok (.enter gf args) w)
    (hin : SeqL gf lb xs N w) (h1 : Boxed w Bp 44 (.func (.func gf) #[] lb)) (h2 : Boxed w (Bp + 1) 9 (.string ⟨n.toArray⟩)) (hN : N ≤ 1000000) :
    SeqB OkF false Try.prog 29 #[.pointer (some ⟨Bp, 0, none⟩), .pointer (some ⟨Bp + 1, 0, none⟩)] encF (fun k => k < w.heap.size) (fun _ => False) (fun ys => ys = Hs.del xs n) (fun _ => False) N w := by
  intro l J Jx W hW hJ _ hst hY h0
  have HX : Hid (∀ O s A, ¬ Jx O s A) := Lib.hid (hst rfl)
  clear hst
  have hsz := hW.size
  have hBp : Bp + 1 < w.heap.size := h2.lt
  have g1 : Boxed W Bp 44 (.func (.func gf) #[] lb) := (hW.block _ (by omega)).trans h1
  have g2 : Boxed W (Bp + 1) 9 (.string ⟨n.toArray⟩) := (hW.block _ (by omega)).trans h2
  have c1 := (g1.alloc (.cells #[.func (.yield l) #[] #[]] 51)).cell
  have HY := Lib.hid hY
  have HG2 := Lib.hid g2
  clear hY h1 h2 g1 g2
  refine callsIn_of_wp_marks Try.func29 rfl trivial ?_ rfl
  simp only [Try.ntmps29, List.size_toArray, List.length_cons, List.length_nil, Nat.reduceAdd, Nat.reduceSub, Array.replicate_succ, Array.replicate_zero, List.push_toArray, List.append_toArray, List.nil_append, List.cons_append]
  gi_wp2
  obtain ⟨W0, hW0⟩ : ∃ W0, W.alloc (.cells #[.func (.yield l) #[] #[]] 51) = W0 := ⟨_, rfl⟩
  have hs0 : W0.heap.size = W.heap.size + 1 := by rw [← hW0]; simp
  have hk0 : ∀ R, Keeps R W W0 := fun R => by rw [← hW0]; exact (Keeps.refl R W).alloc _
  have hI := OInv.abides (l := l) (n := n) (Bn := Bp + 1) (by omega) hJ
  have hi0 : OInv W.heap.size (Bp + 1) l n J (fun _ => False) [] W0 := by
    refine ⟨?_, (hk0 (fun _ => True)).heap HG2.out trivial, fun _ h => h.elim, hJ _ _ _ _ h0 (hk0 _)⟩
    rw [← hW0]
    exact Boxed.new W _ _
  rw [hW0]
  clear c1 hW0
  rw [← hs0] at hI
  have hBW : Below w.heap.size w W0 := hW.trans (((hk0 (fun _ => True)).below (Nat.le_refl _) (fun _ _ => trivial)).mono hsz)
  refine wpIn_rangeB (gf := gf) (lb := lb) rfl eg hin hBW (fun k hk => by omega) (fun k hk => hk.elim) (fun _ => rfl) (OInv W.heap.size (Bp + 1) l n J) (fun _ _ _ _ => False) hI (fun _ _ _ _ _ h _ => h) (fun _ _ _ _ _ h => h) hi0
    (fun _ x a' _ => a' = { tmps := #[.func (.yield l) #[] #[], .pointer (some ⟨Bp, 0, none⟩), .pointer (some ⟨Bp + 1, 0, none⟩), .pointer (some ⟨W.heap.size, 0, none⟩), .string ⟨x.1.toArray⟩, .string ⟨x.2.toArray⟩, .func (.func gf) #[] lb, .string ⟨x.1.toArray⟩, .string ⟨x.2.toArray⟩, undef, undef, undef, undef, undef, undef, undef, undef, undef, undef], defers := [] })
    (fun O x a' A C h hk => h) ?assign ?body ?done ?stop
  case assign =>
    intro O pre x A K hO hA hi hK
    have HK := Lib.hid hK
    have HI := Lib.hid hi
    clear hK hi
    unfold encF
    gi_wp2
    exact HK.out _ _ (Keeps.refl _ _) HI.out rfl
  case body =>
    rintro O pre x a' A hO hA ⟨r, hr⟩ ⟨hy1, hn1, hOB, hJO⟩ rfl hlen hT
    rw [hs0] at hO hA
    obtain ⟨x1, x2⟩ := x
    have b1 := hy1.cell
    have b2 := hn1.cell
    have HJO := Lib.hid hJO
    have HOB := Lib.hid hOB
    have HO := Lib.hid hO
    clear hJO hOB hO
    by_cases hx : x1 = n
    · have hne : (x1 == n) = true := by simp [hx]
      have HS := Lib.hid (del_snoc_eq (pre := pre) (x := (x1, x2)) hx)
      have HY1 := Lib.hid hy1
      have HN1 := Lib.hid hn1
      clear hx hy1 hn1
      gi_wp2
      refine ⟨fun _ h => (by cases h), ?_⟩
      gi_wp2
      exact ⟨Keeps.refl _ _, O, Grows.same (fun k hk => (HO.out k hk).2), HY1.out, HN1.out, HOB.out, by rw [HS.out]; exact HJO.out⟩
    · have hne : (x1 == n) = false := by simp [hx]
      have HS := Lib.hid (del_snoc_ne (pre := pre) (x := (x1, x2)) hx)
      have hle := Hs.del_le pre n
      obtain ⟨fn, tmps, assign, body, hy, hR⟩ := HY.out O (Hs.del pre n) (x1, x2) A (fun k hk => ⟨by have := (HO.out k hk).1; omega, (HO.out k hk).2⟩) (by omega) HJO.out (by omega) hT
      have HR := Lib.hid hR
      have HY1 := Lib.hid hy1
      have HN1 := Lib.hid hn1
      unfold encF at hy
      simp only at hy
      clear hx hle hR hy1 hn1
      gi_wp2
      refine ⟨rfl, HR.out.mono ?_⟩
      rintro e W3 ⟨hk3, O', hg3, (⟨rfl, hJ3⟩ | ⟨rfl, hJx3⟩)⟩
      · have HK3 := Lib.hid hk3
        have HG3 := Lib.hid hg3
        have HJ3 := Lib.hid hJ3
        clear hk3 hg3 hJ3 hy
        gi_wp2
        have hkk : Keeps (RoundS (fun k => k < w.heap.size) (fun _ => False) (W.heap.size + 1) O) A W3 := HK3.out.mono fun k _ h => by
          rcases h with h | h | h
          · exact .inl h
          · exact h.elim
          · exact .inr (.inr ⟨by omega, h.2⟩)
        rw [hs0]
        refine ⟨hkk, O', HG3.out, HK3.out.heap HY1.out (.inr (.inr ⟨Nat.le_refl _, fun h => by have := HOB.out _ h; omega⟩)), HK3.out.heap HN1.out (.inl (by omega)), fun k hk => ?_, by rw [HS.out]; exact HJ3.out⟩
        rcases (HG3.out k hk).2 with h | h
        · exact HOB.out k h
        · omega
      · exact (HX.out _ _ _ hJx3).elim
  case done =>
    rintro O D ys A hD hDs hO hnP rfl ⟨hy1, hn1, hOB, hJO⟩ hDd
    rw [hs0] at hD
    gi_wp2
    refine ⟨by simp, .inl ⟨_, _, rfl, run_takeDeferred hDd, ?_⟩⟩
    refine ⟨_, results_none rfl _ _ _, ?_⟩
    have hp : ∀ S', ¬ S' D → Keeps S' A (A.putObj D (.deferred none)) := fun S' h => (Keeps.refl _ _).putObj h _
    refine ⟨⟨_, rfl⟩, by have := (hp (fun _ => False) id).size; omega, O, fun k hk => ⟨by have := hOB k hk; omega, Nat.lt_of_lt_of_le (hO k hk).2 (hp (fun _ => False) id).size⟩, .inl ⟨_, rfl, ?_⟩⟩
    exact hJ _ _ _ _ hJO (hp _ (fun h => by rcases h.2 with h | h; · omega
                                            · have := (hO D h).1; omega))
  case stop =>
    rintro O D c pre A _ _ _ _ h _ _
    exact h.elim
end Go.Proofs.Ytfbfejeccfoioaa
