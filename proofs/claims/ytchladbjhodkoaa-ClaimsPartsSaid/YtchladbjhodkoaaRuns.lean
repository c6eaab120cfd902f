/- The contract of 'runs': the iterator over a list's slots gives the valid list of them, span by span. -/
import Derived.Test.YtchladbjhodkoaaSeqJoin
import Derived.Test.YtchladbjhodkoaaSpRising
import Derived.Test.YtchladbjhodkoaaRunPlain
namespace Go.Proofs.Ytchladbjhodkoaa
open Go.RowKit Go.Shelf
attribute [local go_sem] Oper.semAt_some

/-- what 'runs' hands back: an iterator that gives these spans, whoever keeps the blocks that were laid for it. -/
def RunsOf (w w' : World) (v : Value) (R : List Sp.S) (N : Nat) : Prop :=
  ∃ Bp, v = .func (.func 73) #[] #[.pointer (some ⟨Bp, 0, none⟩)] ∧ Below w.heap.size w w' ∧
    ∀ Dt Pv : Nat → Prop, (∀ k, w.heap.size ≤ k → k < w'.heap.size → Dt k) → (∀ k, Dt k → k < w'.heap.size) → (∀ k, Pv k → k < w'.heap.size) →
      SeqT false Try.prog 73 #[.pointer (some ⟨Bp, 0, none⟩)] encS Dt Pv (fun ys => Sp.bare ys = R) (fun _ => False) N w'

theorem enters_values : ∀ args w, (callFunc 74 args).run Try.prog w = .ok (.enter 74 args) w :=
  enters_of Try.func74 (by kernel_rfl) rfl

theorem SeqT.weaken {α : Type} {st : Bool} {P : Program} {g : Nat} {lb : Array Value} {encs : α → Array Value} {Dt Pv : Nat → Prop} {S S' Sp : List α → Prop} {N : Nat} {w : World}
    (h : SeqT st P g lb encs Dt Pv S Sp N w) (hS : ∀ xs, S xs → S' xs) : SeqT st P g lb encs Dt Pv S' Sp N w := fun l J Jx W hW hJ hJx hst hY h0 =>
  (h l J Jx W hW hJ hJx hst hY h0).mono fun _ _ ⟨he, hsz, O, hO, hr⟩ => ⟨he, hsz, O, hO, hr.imp (fun ⟨xs, hx, hj⟩ => ⟨xs, hS xs hx, hj⟩) id⟩

/-- the iterator that stands behind the slice value v of 'rising'. -/
theorem runs_seq {w w1 : World} {sv : Value} {zs l : List Sp.S} (hl : l.length ≤ 1000000) (hp : zs.Perm (Sp.clipL l)) (hs : zs.Pairwise (fun s t => s.1 ≤ t.1)) (hsv : SliceS w.heap.size w1 sv zs) (hB : Below w.heap.size w w1) :
    RunsOf w ((w1.alloc (.cells #[sv] 23)).alloc (.cells #[.func (.func 74) #[] #[.pointer (some ⟨w1.heap.size, 0, none⟩)]] 83))
      (.func (.func 73) #[] #[.pointer (some ⟨w1.heap.size + 1, 0, none⟩)]) (Sp.mixS 0 l []) l.length := by
  refine ⟨_, rfl, (hB.alloc hB.size _).alloc (by have := hB.size; simp; omega) _, fun Dt Pv h1 h2 h3 => ?_⟩
  obtain ⟨vs, rfl, hj⟩ := Sp.joined_is hp hs
  have hsz := hB.size
  have hlen : vs.length ≤ l.length := by
    have := hp.length_eq
    have := Sp.clipL_len l
    simp at *
    omega
  obtain ⟨w3, hw3⟩ : ∃ w3, (w1.alloc (.cells #[sv] 23)).alloc (.cells #[.func (.func 74) #[] #[.pointer (some ⟨w1.heap.size, 0, none⟩)]] 83) = w3 := ⟨_, rfl⟩
  have hs3 : w3.heap.size = w1.heap.size + 1 + 1 := by rw [← hw3]; simp
  have hk : Keeps (fun _ => True) w1 w3 := by rw [← hw3]; exact ((Keeps.refl _ w1).alloc _).alloc _
  have hb1 : Boxed w3 w1.heap.size 23 sv := by rw [← hw3]; exact (Boxed.new w1 23 sv).alloc _
  have hb2 : Boxed w3 (w1.heap.size + 1) 83 (.func (.func 74) #[] #[.pointer (some ⟨w1.heap.size, 0, none⟩)]) := by
    rw [← hw3]
    have := Boxed.new (w1.alloc (.cells #[sv] 23)) 83 (.func (.func 74) #[] #[.pointer (some ⟨w1.heap.size, 0, none⟩)])
    rwa [World.size_alloc] at this
  rw [hw3] at h1 h2 h3 ⊢
  have hin : SeqT false Try.prog 74 #[.pointer (some ⟨w1.heap.size, 0, none⟩)] encS Dt Pv (fun ys => ys = vs) (fun _ => False) l.length w3 := by
    rcases hsv with ⟨h0, rfl⟩ | ⟨_, g, cap, rfl, hg1, hg2, hg3, hc⟩
    · have h0' : vs = [] := by simpa using h0
      subst h0'
      exact values_seq_nil _ w3 (by omega) hb1.cell Dt Pv _
    · rw [List.length_map] at hb1
      intro l' J Jx W hW hJ hJx hst hY h0
      refine values_seq w1.heap.size g 0 cap vs w3 (by omega) (by omega) (by omega) hb1.cell ?_ Dt Pv (h1 g hg1 (by omega)) l' J Jx W hW hJ hJx hst (fun O pre x W1 a1 a2 a3 a4 => hY O pre x W1 a1 a2 a3 (by omega)) h0
      intro k hk'
      obtain ⟨e1, e2⟩ := hc k (by simpa using hk')
      simp only [List.getElem_map] at e1 e2
      exact ⟨(hk.cell (p := ⟨g, 0 + k * 2, none⟩) hg2 trivial).trans e1, (hk.cell (p := ⟨g, 0 + k * 2 + 1, none⟩) hg2 trivial).trans e2⟩
  refine (joined_seq (w1.heap.size + 1) _ _ Dt Pv _ l.length w3 w3 enters_values hin (Below.refl _ _) (by omega) hb2.cell h2 h3 (fun xs hx => by subst hx; exact hlen)).weaken ?_
  rintro ys ⟨xs, rfl, rfl⟩
  exact hj

set_option maxRecDepth 100000 in
set_option maxHeartbeats 2000000 in
theorem runs_any (a : Option Addr) (cap : Nat) (l : List Sp.S) (w : World) (hl : l.length ≤ 1000000) (hS : Spans w a cap l) :
    CallsIn Fence.wide 0 Try.prog 52 #[.slice a l.length cap] w fun e w' => ∃ v, e = .returned v ∧ RunsOf w w' v (Sp.mixS 0 l []) l.length := by
  have hr := rising_any a cap l w hl hS
  clear hS
  refine callsIn_of_wp Try.func52 rfl trivial ?_ rfl
  simp only [Try.ntmps52, List.size_toArray, List.length_cons, List.length_nil, Nat.reduceAdd, Nat.reduceSub, Array.replicate_succ, Array.replicate_zero, List.push_toArray, List.append_toArray, List.nil_append, List.cons_append]
  gi_wp2_with (refine ⟨trivial, rfl, ?_⟩; refine (callsIn_wide.2 hr : CallsIn Fence.wide 0 Try.prog _ _ _ _).mono ?_; rintro e w1 ⟨sv, zs, rfl, hp, hs, hsv, hB⟩; have HR := Lib.hid (runs_seq hl hp hs hsv hB); obtain ⟨sa, sl, sc, rfl⟩ : ∃ sa sl sc, sv = .slice sa sl sc := (by rcases hsv with ⟨_, h⟩ | ⟨_, g, c, h, _⟩ <;> exact ⟨_, _, _, h⟩); clear hp hs hsv hB)
  gi_wp2_with (refine ⟨trivial, rfl, ?_⟩; refine (values_any _ _ _ _).mono ?_; rintro e w' ⟨rfl, rfl⟩)
  gi_wp2_with (refine ⟨trivial, rfl, ?_⟩; refine (joined_any _ _ _).mono ?_; rintro e w' ⟨rfl, rfl⟩)
  go_ret
  exact ⟨_, rfl, by simpa using HR.out⟩

end Go.Proofs.Ytchladbjhodkoaa
