/- The contract of list.without and of the iterator that it hands out. -/
import Derived.Test.YtjfjlbgbdjcecaaLsSeq
namespace Go.Proofs.Ytjfjlbgbdjcecaa
open Go.RowKit Go.Shelf
attribute [local go_sem] Oper.semAt_some
set_option linter.unusedVariables false
set_option linter.unusedSimpArgs false

/-- marks in a block of the call's own. -/
def Gn (w : World) (bg n : Nat) (g : Nat → Bool) : Prop := bg < w.heap.size ∧ ∀ i, i < n → w.cell? ⟨bg, i, none⟩ = some (.bool (g i)) ∧ w.frozen? ⟨bg, i, none⟩ = false
theorem Gn.keep {w w' : World} {bg n : Nat} {g : Nat → Bool} {S : Nat → Prop} (h : Gn w bg n g) (hk : Keeps S w w') (hS : S bg) : Gn w' bg n g := by
  refine ⟨Nat.lt_of_lt_of_le h.1 hk.size, fun i hi => ?_⟩
  rw [hk.cell (p := ⟨bg, i, none⟩) h.1 hS, hk.frozen (p := ⟨bg, i, none⟩) h.1 hS]
  exact h.2 i hi

set_option maxHeartbeats 1000000 in
theorem without_any (a b : Option Addr) (n c m d : Nat) (w : World) :
    CallsIn Fence.wide 0 Try.prog 27 #[.slice a n c, .slice b m d] w fun e w' =>
      e = .returned (.func (.func 32) #[] #[.pointer (some ⟨w.heap.size, 0, none⟩), .pointer (some ⟨w.heap.size + 1, 0, none⟩)]) ∧
      w' = (w.alloc (.cells #[.slice a n c] 22)).alloc (.cells #[.slice b m d] 53) := by
  refine callsIn_of_wp Try.func27 rfl trivial ?_ rfl
  simp only [Try.ntmps27, List.size_toArray, List.length_cons, List.length_nil, Nat.reduceAdd, Nat.reduceSub, Array.replicate_succ, Array.replicate_zero, List.push_toArray, List.append_toArray, List.nil_append, List.cons_append]
  gi_wp2
  go_ret
  exact ⟨rfl, rfl⟩

/-- between two elements: the iterator's own yield, the marks, and the caller's invariant. -/
def OInv (B Bp bg n l : Nat) (g : Nat → Bool) (J : (Nat → Prop) → List Ls.El → World → Prop) (O : Nat → Prop) (pre : List Ls.El) (A : World) : Prop :=
  Boxed A B 59 (.func (.yield l) #[] #[]) ∧ Boxed A (Bp + 1) 53 (.slice (some ⟨bg, 0, none⟩) n n) ∧ Gn A bg n g ∧ (∀ k, O k → B + 4 ≤ k) ∧ J O (Ls.keptK g pre) A

theorem OInv.abides {B Bp bg n l : Nat} {g : Nat → Bool} {J : (Nat → Prop) → List Ls.El → World → Prop} (hp : Bp + 1 < B) (hg : bg < B) (hJ : AbidesT B (fun _ => False) J) : AbidesT (B + 2) (fun _ => False) (OInv B Bp bg n l g J) := by
  rintro O s A C ⟨h1, h2, h3, hO, hj⟩ hk
  exact ⟨hk.heap h1 ⟨id, .inl (by omega)⟩, hk.heap h2 ⟨id, .inl (by omega)⟩, h3.keep hk ⟨id, .inl (by omega)⟩, hO, hJ _ _ _ _ hj (hk.mono fun k _ h => ⟨h.1, h.2.imp (fun h => by omega) id⟩)⟩

set_option maxRecDepth 100000 in
set_option maxHeartbeats 4000000 in
theorem without_seq (Bp bg : Nat) (a : Option Addr) (cap : Nat) (ws : List Ls.Bs) (g : Nat → Bool) (w : World)
    (h1 : Boxed w Bp 22 (.slice a ws.length cap)) (h2 : Boxed w (Bp + 1) 53 (.slice (some ⟨bg, 0, none⟩) ws.length ws.length)) (hG : Gn w bg ws.length g) (hF : Wds w a cap ws) (hn : ws.length ≤ 1000000) (hok : ∀ s ∈ ws, s.length ≤ 1000000) :
    SeqB (OkI ws.length) false Try.prog 32 #[.pointer (some ⟨Bp, 0, none⟩), .pointer (some ⟨Bp + 1, 0, none⟩)] encE (fun k => k < w.heap.size) (fun _ => False) (fun ys => ys = Ls.keptK g (Ls.dirL false ws)) (fun _ => False) ws.length w := by
  intro l J Jx W hW hJ _ hst hY h0
  have HX : Hid (∀ O s A, ¬ Jx O s A) := Lib.hid (hst rfl)
  clear hst
  have hsz := hW.size
  have hBp : Bp + 1 < w.heap.size := h2.lt
  have hbg := hG.1
  have g1 : Boxed W Bp 22 (.slice a ws.length cap) := (hW.block _ (by omega)).trans h1
  have g2 : Boxed W (Bp + 1) 53 (.slice (some ⟨bg, 0, none⟩) ws.length ws.length) := (hW.block _ (by omega)).trans h2
  have g3 : Gn W bg ws.length g := hG.keep (Keeps.of_below (S := fun k => k < w.heap.size) hW fun _ _ h => h) hbg
  have c1 := (g1.alloc (.cells #[.func (.yield l) #[] #[]] 59)).cell
  obtain ⟨W0, hW0⟩ : ∃ W0, W.alloc (.cells #[.func (.yield l) #[] #[]] 59) = W0 := ⟨_, rfl⟩
  have hs0 : W0.heap.size = W.heap.size + 1 := by rw [← hW0]; simp
  have hb0 : Below W.heap.size W W0 := by rw [← hW0]; exact (Below.refl _ _).alloc (Nat.le_refl _) _
  have hy0 : Boxed W0 W.heap.size 59 (.func (.yield l) #[] #[]) := by rw [← hW0]; exact Boxed.new W _ _
  have hFW : Wds W0 a cap ws := (hF.later hW).later hb0
  have hwk := walk_any false a ws.length cap W0
  have hsq0 := walk_seq false W0.heap.size a cap ws (W0.alloc (.cells #[.slice a ws.length cap] 22)) (Boxed.new W0 _ _) (hFW.later ((Below.refl _ _).alloc (Nat.le_refl _) _)) hn hok (fun k => k < w.heap.size ∨ k = W0.heap.size) (fun _ => False) (.inr rfl) (fun b off ha h0 => .inl (wds_block hF b off ha h0))
  have hsq := seq_false hsq0 (fun _ h => h) (Below.refl _ _)
  clear hsq0
  obtain ⟨W2, hW2⟩ : ∃ W2, W0.alloc (.cells #[.slice a ws.length cap] 22) = W2 := ⟨_, rfl⟩
  have hs2 : W2.heap.size = W.heap.size + 2 := by rw [← hW2]; simp; omega
  have hk2 : ∀ R, Keeps R W W2 := fun R => by rw [← hW2, ← hW0]; exact ((Keeps.refl R W).alloc _).alloc _
  rw [hW2] at hwk hsq
  have hI := OInv.abides (l := l) (n := ws.length) (g := g) (Bp := Bp) (bg := bg) (by omega) (by omega) hJ
  have hi0 : OInv W.heap.size Bp bg ws.length l g J (fun _ => False) [] W2 := by
    refine ⟨?_, (hk2 (fun _ => True)).heap g2 trivial, g3.keep (hk2 (fun _ => True)) trivial, fun _ h => h.elim, hJ _ _ _ _ h0 (hk2 _)⟩
    rw [← hW2]
    exact hy0.alloc _
  rw [← hs2] at hI
  have hBW : Below w.heap.size w W2 := hW.trans (((hk2 (fun _ => True)).below (Nat.le_refl _) (fun _ _ => trivial)).mono hsz)
  have eg := eg_gfB false
  generalize gfB false = gf at hwk hsq eg
  rw [hs0] at hwk hsq
  have HY := Lib.hid hY
  have HWK := Lib.hid hwk
  have HSQ := Lib.hid hsq
  have HI0 := Lib.hid hi0
  have HI := Lib.hid hI
  have HBW := Lib.hid hBW
  have HJ := Lib.hid hJ
  have HW0 := Lib.hid hW0
  clear hY h1 h2 g1 g2 g3 hG hF hFW hwk hsq hi0 hI hBW hJ hb0 hy0 hW2 hW0 h0
  refine callsIn_of_wp_marks Try.func32 rfl trivial ?_ rfl
  simp only [Try.ntmps32, List.size_toArray, List.length_cons, List.length_nil, Nat.reduceAdd, Nat.reduceSub, Array.replicate_succ, Array.replicate_zero, List.push_toArray, List.append_toArray, List.nil_append, List.cons_append]
  gi_wp2_with (rw [HW0.out]; refine ⟨trivial, rfl, ?_⟩; with_reducible refine HWK.out.mono ?_; rintro e w2' ⟨rfl, hw⟩; have HW2 := Lib.hid hw; clear hw)
  obtain rfl : w2' = W2 := HW2.out
  clear c1
  refine wpIn_rangeB (gf := gf) (lb := #[.pointer (some ⟨W.heap.size + 1, 0, none⟩)]) rfl eg HSQ.out (Below.refl _ _) (fun k hk => by omega) (fun k hk => hk.elim) (fun _ => rfl) (OInv W.heap.size Bp bg ws.length l g J) (fun _ _ _ _ => False) HI.out (fun _ _ _ _ _ h _ => h) (fun _ _ _ _ _ h => h) HI0.out
    (fun _ x a' _ => a' = { tmps := #[.func (.yield l) #[] #[], .pointer (some ⟨Bp, 0, none⟩), .pointer (some ⟨Bp + 1, 0, none⟩), .pointer (some ⟨W.heap.size, 0, none⟩), .int .i64 (x.1 : Int), .string ⟨x.2.toArray⟩, .slice a ws.length cap, .func (.func gf) #[] #[.pointer (some ⟨W.heap.size + 1, 0, none⟩)], .int .i64 (x.1 : Int), .string ⟨x.2.toArray⟩, undef, undef, undef, undef, undef, undef, undef, undef, undef, undef, undef, undef], defers := [] })
    (fun O x a' A C h hk => h) ?assign ?body ?done ?stop
  case assign =>
    intro O pre x A K hO hA hi hK
    have HK := Lib.hid hK
    have HI := Lib.hid hi
    clear hK hi
    unfold encE
    gi_wp2
    exact HK.out _ _ (Keeps.refl _ _) HI.out rfl
  case body =>
    rintro O pre x a' A hO hA ⟨r, hr⟩ ⟨hy1, hn1, hg1, hOB, hJO⟩ rfl hlen hT
    rw [hs2] at hO hA
    obtain ⟨x1, x2⟩ := x
    have b1 := hy1.cell
    have b2 := hn1.cell
    have b3 := (hg1.2 x1 hT.2).1
    have hxn : (x1 : Int) < (ws.length : Int) := by have : x1 < ws.length := hT.2; omega
    have hwl : (ws.length : Int) ≤ 1000000 := by omega
    have HJO := Lib.hid hJO
    have HOB := Lib.hid hOB
    have HO := Lib.hid hO
    have HY1 := Lib.hid hy1
    have HN1 := Lib.hid hn1
    have HG1 := Lib.hid hg1
    clear hJO hOB hO hy1 hn1 hg1
    cases hgx : g x1
    · have HS := Lib.hid (Ls.keptK_yes (g := g) (pre := pre) (x := (x1, x2)) hgx)
      have hle := Ls.keptK_le g pre
      obtain ⟨fn, tmps, assign, body, hy, hR⟩ := HY.out O (Ls.keptK g pre) (x1, x2) A (fun k hk => ⟨by have := (HO.out k hk).1; omega, (HO.out k hk).2⟩) (by omega) HJO.out (by omega) hT
      have HR := Lib.hid hR
      rw [hgx] at b3
      unfold encE at hy
      simp only at hy
      clear hgx hle hR
      gi_wp2
      refine ⟨rfl, HR.out.mono ?_⟩
      rintro e W3 ⟨hk3, O', hg3, (⟨rfl, hJ3⟩ | ⟨rfl, hJx3⟩)⟩
      · have HK3 := Lib.hid hk3
        have HG3 := Lib.hid hg3
        have HJ3 := Lib.hid hJ3
        clear hk3 hg3 hJ3 hy
        gi_wp2
        have hkk : Keeps (RoundS (fun k => k < w.heap.size ∨ k = W.heap.size + 1) (fun _ => False) (W.heap.size + 2) O) A W3 := HK3.out.mono fun k _ h => by
          rcases h with (h | h) | h | h
          · exact .inl h
          · exact .inr (.inr ⟨by omega, fun h' => by have := HOB.out _ h'; omega⟩)
          · exact h.elim
          · exact .inr (.inr ⟨by omega, h.2⟩)
        rw [hs2]
        refine ⟨hkk, O', HG3.out, HK3.out.heap HY1.out (.inr (.inr ⟨Nat.le_refl _, fun h => by have := HOB.out _ h; omega⟩)), HK3.out.heap HN1.out (.inl (by omega)), HG1.out.keep HK3.out (.inl hbg), fun k hk => ?_, by rw [HS.out]; exact HJ3.out⟩
        rcases (HG3.out k hk).2 with h | h
        · exact HOB.out k h
        · omega
      · exact (HX.out _ _ _ hJx3).elim
    · have HS := Lib.hid (Ls.keptK_no (g := g) (pre := pre) (x := (x1, x2)) hgx)
      rw [hgx] at b3
      clear hgx
      gi_wp2
      refine ⟨fun _ h => (by cases h), ?_⟩
      gi_wp2
      exact ⟨Keeps.refl _ _, O, Grows.same (fun k hk => (HO.out k hk).2), HY1.out, HN1.out, HG1.out, HOB.out, by rw [HS.out]; exact HJO.out⟩
  case done =>
    rintro O D ys A hD hDs hO hnP rfl ⟨hy1, hn1, hg1, hOB, hJO⟩ hDd
    rw [hs2] at hD
    gi_wp2
    refine ⟨by simp, .inl ⟨_, _, rfl, run_takeDeferred hDd, ?_⟩⟩
    refine ⟨_, results_none rfl _ _ _, ?_⟩
    have hp : ∀ S', ¬ S' D → Keeps S' A (A.putObj D (.deferred none)) := fun S' h => (Keeps.refl _ _).putObj h _
    refine ⟨⟨_, rfl⟩, by have := (hp (fun _ => False) id).size; omega, O, fun k hk => ⟨by have := hOB k hk; omega, Nat.lt_of_lt_of_le (hO k hk).2 (hp (fun _ => False) id).size⟩, ?_⟩
    exact HJ.out _ _ _ _ hJO (hp _ (fun h => by rcases h.2 with h | h; · omega
                                                · have := (hO D h).1; omega))
  case stop =>
    rintro O D c pre A _ _ _ _ h _ _
    exact h.elim
end Go.Proofs.Ytjfjlbgbdjcecaa
