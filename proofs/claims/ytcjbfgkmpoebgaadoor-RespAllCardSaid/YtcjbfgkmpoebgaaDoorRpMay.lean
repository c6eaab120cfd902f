/- The iterator over a reply and all within it: visit, parts. The contract of resp.May. -/
import Derived.Test.YtcjbfgkmpoebgaaDoorRpBase
import Derived.Test.YtcjbfgkmpoebgaaDoorRpFits
namespace Go.Proofs.YtcjbfgkmpoebgaaDoor
open Go.RowKit Go.Shelf
attribute [local go_sem] Oper.semAt_some

/-- a part as the walk hands it on. -/
structure PV (Q : Rp.H → Prop) where
  h : Rp.H
  lev : Nat
  a : Option Addr
  cap : Nat
  fit : Fit h.k h.s h.n h.m cap
  low : lev ≤ 1000000
  q : Q h

variable {Q : Rp.H → Prop}

def PV.hl (x : PV Q) : Rp.H × Nat := (x.h, x.lev)
def encV (x : (PV Q)) : Array Value := #[rv x.h.k x.h.s x.h.n x.a x.h.m x.cap, .int .i64 x.lev]

/-- what a round of such a walk is known to do. -/
def RoundV (l B0 : Nat) (Dt : Nat → Prop) (J Jx : (Nat → Prop) → List (PV Q) → World → Prop) (N : Nat) : Prop :=
  ∀ O pre x W1, (∀ k, O k → B0 ≤ k ∧ k < W1.heap.size) → B0 ≤ W1.heap.size → J O pre W1 → pre.length < N → YieldAt Fence.wide 0 Tryd.prog l (encV x) W1 fun e W' =>
      KeepsN Dt (OwnS (fun _ => False) B0 O) W1 W' ∧ ∃ O', GrowsN B0 O O' W1 W' ∧ ((e = .returned (.bool true) ∧ J O' (pre ++ [x]) W') ∨ (e = .returned (.bool false) ∧ Jx O' (pre ++ [x]) W'))

/-- what a visit leaves. -/
def VisOut (B0 : Nat) (Dt : Nat → Prop) (J Jx : (Nat → Prop) → List (PV Q) → World → Prop) (O : Nat → Prop) (pre : List (PV Q)) (hs : List (Rp.H × Nat)) (W : World) (e : Ending) (W' : World) : Prop :=
  KeepsN Dt (OwnS (fun _ => False) B0 O) W W' ∧ ∃ O', GrowsN B0 O O' W W' ∧
    ((e = .returned (.bool true) ∧ ∃ xs, xs.map PV.hl = hs ∧ J O' (pre ++ xs) W') ∨ (e = .returned (.bool false) ∧ ∃ pre' : List (PV Q), pre'.map PV.hl <+: pre.map PV.hl ++ hs ∧ Jx O' pre' W'))

theorem VisOut.ret {B0 : Nat} {Dt : Nat → Prop} {J Jx : (Nat → Prop) → List (PV Q) → World → Prop} {O : Nat → Prop} {pre : List (PV Q)} {hs : List (Rp.H × Nat)} {W : World} {e : Ending} {W' : World} (h : VisOut B0 Dt J Jx O pre hs W e W') : ∃ ok : Bool, e = .returned (.bool ok) := by
  obtain ⟨_, _, _, (⟨h, _⟩ | ⟨h, _⟩)⟩ := h
  · exact ⟨_, h⟩
  · exact ⟨_, h⟩

theorem KeepsN.trans' {D S S' : Nat → Prop} {A B C : World} (h : KeepsN D S A B) (k : KeepsN D S' B C) (hs : ∀ i, i < A.heap.size → NB A i → S i → S' i) : KeepsN D S A C :=
  ⟨k.os.trans h.os, k.tape.trans h.tape, k.output.trans h.output, Nat.le_trans h.size (KeepsN.size k), fun i hi hd => by
    have e := h.block i hi hd
    refine (k.block i (Nat.lt_of_lt_of_le hi h.size) (hd.imp id fun hd => ⟨hs i hi hd.2 hd.1, fun c fz hc => hd.2 c fz (e ▸ hc)⟩)).trans e⟩

theorem KeepsN.dt {D S : Nat → Prop} {A B : World} (h : KeepsN D S A B) : Keeps D A B := Keeps.mono h fun _ _ h => .inl h

theorem zero24 (w : World) : (zeroValue 24).run Tryd.prog w = .ok (.agg #[.int .i64 0, .string ⟨#[]⟩, .int .i64 0, .slice none 0 0]) w := by kernel_rfl

set_option maxRecDepth 100000 in
set_option maxHeartbeats 4000000 in
theorem visit_any (l B0 : Nat) (Dt : Nat → Prop) (J Jx : (Nat → Prop) → List (PV Q) → World → Prop) (N : Nat) (hJ : AbidesT B0 (fun _ => False) J) (hY : RoundV l B0 Dt J Jx N) :
    ∀ (sz : Nat) (r : Rp.R) (lev : Nat) (v : Value) (W : World) (O : Nat → Prop) (pre : List (PV Q)), (Rp.heads 0 r).length ≤ sz → lev + (Rp.heads 0 r).length ≤ 1000000 → AllQ Q (Rp.heads lev r) → Rep Dt W r v → B0 ≤ W.heap.size → (∀ k, O k → B0 ≤ k ∧ k < W.heap.size) → J O pre W → pre.length + (Rp.heads 0 r).length ≤ N →
      CallsIn Fence.wide 0 Tryd.prog 34 #[v, .int .i64 lev, .func (.yield l) #[] #[]] W (VisOut B0 Dt J Jx O pre (Rp.heads lev r) W) := by
  intro sz
  induction sz with
  | zero => intro r lev v W O pre h; have := Rp.heads_ne 0 r; omega
  | succ sz ih =>
    intro r lev v W O pre hsz hlev hcas hrep hB hO hj hN
    obtain ⟨a, cap, rfl, hfit, hl⟩ := hrep.parts
    have hsl : ∀ i (hi : i < r.l.length), (Rp.heads 0 r.l[i]).length ≤ sz ∧ (Rp.headsL 0 (r.l.take i)).length + (Rp.heads 0 r.l[i]).length + 1 ≤ (Rp.heads 0 r).length := fun i hi => by
      have h1 := congrArg List.length (Rp.heads_eq 0 r)
      rw [List.length_cons, Rp.headsL_len 1 0] at h1
      have h2 := congrArg List.length (Rp.headsL_take 0 hi)
      rw [List.length_append] at h2
      have h3 := Rp.headsL_take_le 0 r.l (i + 1)
      omega
    have HSL := Lib.hid hsl
    have HN : Hid (pre.length + (Rp.heads 0 r).length ≤ N ∧ lev + (Rp.heads 0 r).length ≤ 1000000) := Lib.hid ⟨hN, hlev⟩
    have h1n := Rp.heads_ne 0 r
    have HCA := Lib.hid hcas
    have HH := Lib.hid (Rp.heads_eq lev r)
    obtain ⟨x, hx⟩ : ∃ x : (PV Q), x.h = ⟨r.k, r.s, r.n, r.l.length⟩ ∧ x.lev = lev ∧ x.a = a ∧ x.cap = cap := ⟨⟨⟨r.k, r.s, r.n, r.l.length⟩, lev, a, cap, hfit, by omega, hcas (⟨r.k, r.s, r.n, r.l.length⟩, lev) (by rw [Rp.heads_eq]; simp)⟩, rfl, rfl, rfl, rfl⟩
    obtain ⟨W1, hW1⟩ : ∃ W1, W.alloc (.cells #[.int .i64 r.k, .string ⟨r.s.toArray⟩, .int .i64 r.n, .slice a r.l.length cap] 24) = W1 := ⟨_, rfl⟩
    have hs1 : W1.heap.size = W.heap.size + 1 := by rw [← hW1]; simp
    have hk1 : ∀ S, Keeps S W W1 := fun S => by rw [← hW1]; exact (Keeps.refl S W).alloc _
    have hbox : W1.heap[W.heap.size]? = some (.cells #[.int .i64 r.k, .string ⟨r.s.toArray⟩, .int .i64 r.n, .slice a r.l.length cap] 24 (0, 0)) := by rw [← hW1]; exact World.alloc_heap_new W _
    obtain ⟨fn, tmps, assign, body, hy, hR⟩ := hY O pre x W1 (fun k h => ⟨(hO k h).1, by have := (hO k h).2; omega⟩) (by omega) (hJ _ _ _ _ hj (hk1 _)) (by omega)
    have HX := Lib.hid hx
    have he : encV x = #[.agg #[.int .i64 r.k, .string ⟨r.s.toArray⟩, .int .i64 r.n, .slice a r.l.length cap], .int .i64 lev] := by
      obtain ⟨h1, h2, h3, h4⟩ := hx
      unfold encV rv
      rw [h1, h2, h3, h4]
    rw [he] at hy
    clear he hx hN hlev hsl hcas
    have HL := Lib.hid hl
    have HO := Lib.hid hO
    have hlenB : r.l.length ≤ 281474976710656 := by unfold Fit at hfit; omega
    clear hl hO hfit
    refine callsIn_of_wp Tryd.func34 rfl trivial ?_ rfl
    simp only [Tryd.ntmps34, List.size_toArray, List.length_cons, List.length_nil, Nat.reduceAdd, Nat.reduceSub, Array.replicate_succ, Array.replicate_zero, List.push_toArray, List.append_toArray, List.nil_append, List.cons_append]
    unfold rv
    have step : ∀ (e : Ending) (W2 : World), (KeepsN Dt (OwnS (fun _ => False) B0 O) W1 W2 ∧ ∃ O', GrowsN B0 O O' W1 W2 ∧ ((e = .returned (.bool true) ∧ J O' (pre ++ [x]) W2) ∨ (e = .returned (.bool false) ∧ Jx O' (pre ++ [x]) W2))) →
        Hid (KeepsN Dt (OwnS (fun _ => False) B0 O) W W2 ∧ W2.heap[W.heap.size]? = some (.cells #[.int .i64 r.k, .string ⟨r.s.toArray⟩, .int .i64 r.n, .slice a r.l.length cap] 24 (0, 0)) ∧ ∃ O', (∀ k, O' k → k < W2.heap.size ∧ (O k ∨ W1.heap.size ≤ k ∨ (B0 ≤ k ∧ ¬ NB W1 k))) ∧ ((e = .returned (.bool true) ∧ J O' (pre ++ [x]) W2) ∨ (e = .returned (.bool false) ∧ Jx O' (pre ++ [x]) W2))) := fun e W2 h => by
      obtain ⟨h1, O', h2, h3⟩ := h
      exact Lib.hid ⟨(KeepsN.of_keeps (hk1 _)).trans h1, h1.heap hbox (.inr ⟨.inr ⟨hB, fun h => by have := (HO.out _ h).2; omega⟩, fun _ _ h => by cases h⟩), O', h2, h3⟩
    have HSt := Lib.hid step
    clear step
    subst hW1
    gi_wp2
    refine ⟨rfl, hR.mono ?_⟩
    rintro e W2 h
    have h' := (HSt.out e W2 h).out
    clear h HSt hR hy hk1 hbox hs1
    obtain ⟨hk2, hbx2, O2, hO2, (⟨rfl, hJ2⟩ | ⟨rfl, hJx2⟩)⟩ := h'
    · obtain ⟨b0, b1, b2, b3⟩ := cells_four hbx2
      have hs1 : (W.alloc (.cells #[.int .i64 r.k, .string ⟨r.s.toArray⟩, .int .i64 r.n, .slice a r.l.length cap] 24)).heap.size = W.heap.size + 1 := by simp
      have hnb1 : ∀ k, B0 ≤ k → ¬ NB (W.alloc (.cells #[.int .i64 r.k, .string ⟨r.s.toArray⟩, .int .i64 r.n, .slice a r.l.length cap] 24)) k → W.heap.size ≤ k ∨ (B0 ≤ k ∧ ¬ NB W k) := fun k hb h => by
        by_cases hlt : k < W.heap.size
        · exact .inr ⟨hb, fun hn => h fun c fz hc => hn c fz (by rwa [Below.heap_alloc _ _ _ hlt] at hc)⟩
        · exact .inl (by omega)
      have hO2 : ∀ k, O2 k → k < W2.heap.size ∧ (O k ∨ W.heap.size ≤ k ∨ (B0 ≤ k ∧ ¬ NB W k)) := fun k hk => ⟨(hO2 k hk).1, by
        rcases (hO2 k hk).2 with h | h | h
        · exact .inl h
        · exact .inr (.inl (by rw [hs1] at h; omega))
        · exact .inr (hnb1 k h.1 h.2)⟩
      clear hnb1
      have H2 := Lib.hid (And.intro hk2 (And.intro hO2 hbx2))
      clear hk2 hO2 hbx2 hs1
      gi_wp2
      gi_loopw [6, 17] (fun q i wr => ∃ (k : Nat) (O' : Nat → Prop) (xs : List (PV Q)), k ≤ r.l.length ∧ q = .bool false ∧ i = .int .i64 k ∧ Hid (KeepsN Dt (OwnS (fun _ => False) B0 O) W wr) ∧ Hid (∀ k, O' k → k < wr.heap.size ∧ (O k ∨ W.heap.size ≤ k ∨ (B0 ≤ k ∧ ¬ NB W k))) ∧ Hid (xs.map PV.hl = (⟨r.k, r.s, r.n, r.l.length⟩, lev) :: Rp.headsL (lev + 1) (r.l.take k)) ∧ Hid (J O' (pre ++ xs) wr) ∧ Hid (W2.heap.size ≤ wr.heap.size))
        (fun _ i _ => r.l.length - (intOf i).toNat)
      case atStart =>
        refine ⟨0, O2, [x], Nat.zero_le _, rfl, rfl, Lib.hid H2.out.1, Lib.hid H2.out.2.1, Lib.hid ?_, Lib.hid hJ2, Lib.hid (Nat.le_refl _)⟩
        obtain ⟨h1, h2, _⟩ := HX.out
        simp [Rp.headsL, PV.hl, h1, h2]
      case round =>
        obtain ⟨k, O', xs, hk, rfl, rfl, HK, HO', HXS, HJ', HS'⟩ := hrel
        by_cases hlt : k < r.l.length
        · have HLk := Lib.hid (Rp.headsL_take (lev + 1) hlt)
          obtain ⟨q1, q2⟩ := HSL.out k hlt
          obtain ⟨b, off, rfl, hDb, hbW, hRL⟩ : ∃ b off, a = some ⟨b, off, none⟩ ∧ Dt b ∧ b < W.heap.size ∧ RepL Dt W r.l b off := by
            rcases HL.out with h | h
            · rw [h] at hlt; simp at hlt
            · exact h
          have hRL' := RepL.keeps HK.out.dt (fun _ h _ => h) r.l b off hDb hbW hRL
          obtain ⟨v0, v1, v2, v3, c0, c1, c2, c3, hr⟩ := hRL'.get k hlt
          clear hRL hRL'
          obtain ⟨a', cap', hv, hf', -⟩ := hr.parts
          have hxl : xs.length = 1 + (Rp.headsL 0 (r.l.take k)).length := by
            have := congrArg List.length HXS.out
            rw [List.length_map, List.length_cons, Rp.headsL_len (lev + 1) 0] at this
            omega
          have hsz' : B0 ≤ wr.heap.size := by have := HK.out.size; omega
          have hic := ih r.l[k] (lev + 1) (.agg #[v0, v1, v2, v3]) (wr.alloc (.cells #[v0, v1, v2, v3] 24)) O' (pre ++ xs) q1 (by have := HN.out.2; omega) (fun p hp => HCA.out p (by rw [HH.out]; exact List.mem_cons_of_mem _ (headsL_sub (lev + 1) hlt p hp))) (hr.later ((Below.refl _ wr).alloc (Nat.le_refl _) _)) (by simp; omega)
            (fun j hj => ⟨by rcases (HO'.out j hj).2 with h | h | h; exact (HO.out j h).1; omega; exact h.1, by have := (HO'.out j hj).1; simp; omega⟩) (hJ _ _ _ _ HJ'.out ((Keeps.refl _ wr).alloc _)) (by rw [List.length_append]; have := HN.out.1; omega)
          unfold rv at hv
          injection hv with hv
          simp only [Array.mk.injEq, List.cons.injEq, and_true] at hv
          obtain ⟨rfl, rfl, rfl, rfl⟩ := hv
          clear hr hf' q1 q2 hxl
          have hw : IntKind.i64.wrap ((lev : Int) + 1) = (lev : Int) + 1 := IntWalk.i64_in _ (by have := HN.out.2; omega)
          rw [Int.natCast_add, Int.natCast_one] at hic
          generalize Rp.heads (lev + 1) r.l[k] = hs at hic HLk
          generalize r.l[k] = ch at hic c0 c1 c2 c3
          generalize ch.l.length = chl at hic c0 c1 c2 c3
          have hnext : ∀ (e : Ending) (W3 : World), VisOut B0 Dt J Jx O' (pre ++ xs) hs (wr.alloc (.cells #[.int .i64 ch.k, .string ⟨ch.s.toArray⟩, .int .i64 ch.n, .slice a' chl cap'] 24)) e W3 →
              Hid (KeepsN Dt (OwnS (fun _ => False) B0 O) W W3 ∧ W2.heap.size ≤ W3.heap.size ∧ ∃ ok : Bool, e = .returned (.bool ok) ∧ ∃ O3, (∀ k, O3 k → k < W3.heap.size ∧ (O k ∨ W.heap.size ≤ k ∨ (B0 ≤ k ∧ ¬ NB W k))) ∧ ((ok = true ∧ ∃ ys, ys.map PV.hl = (⟨r.k, r.s, r.n, r.l.length⟩, lev) :: Rp.headsL (lev + 1) (r.l.take (k + 1)) ∧ J O3 (pre ++ ys) W3) ∨ (ok = false ∧ ∃ pre' : List (PV Q), pre'.map PV.hl <+: pre.map PV.hl ++ Rp.heads lev r ∧ Jx O3 pre' W3))) := fun e W3 h => by
            obtain ⟨h1, O3, h2, h3⟩ := h
            have hs3 := h1.size
            simp only [World.size_alloc] at hs3 h2
            refine Lib.hid ⟨(HK.out.alloc _).trans' h1 fun j hj hn hs => hs.imp id fun hs => ⟨hs.1, fun ho => by rcases (HO'.out j ho).2 with h | h | h; exact hs.2 h; omega; exact h.2 hn⟩, by have := HS'.out; omega, ?_⟩
            have g2 : ∀ k, O3 k → k < W3.heap.size ∧ (O k ∨ W.heap.size ≤ k ∨ (B0 ≤ k ∧ ¬ NB W k)) := fun j hj => ⟨(h2 j hj).1, ?_⟩
            · rcases h3 with ⟨he, ys, hy, hj⟩ | ⟨he, pre', hpx, h3⟩
              · refine ⟨true, he, O3, g2, .inl ⟨rfl, xs ++ ys, ?_, by rw [← List.append_assoc]; exact hj⟩⟩
                rw [List.map_append, HXS.out, hy, HLk.out, List.cons_append]
              · refine ⟨false, he, O3, g2, .inr ⟨rfl, pre', hpx.trans ?_, h3⟩⟩
                rw [List.map_append, List.append_assoc, HXS.out, List.cons_append, ← HLk.out, HH.out]
                refine List.prefix_append_right_inj _ |>.2 (List.cons_prefix_cons.2 ⟨rfl, ?_⟩)
                have := Rp.headsL_append (lev + 1) (r.l.take (k + 1)) (r.l.drop (k + 1))
                rw [List.take_append_drop] at this
                exact ⟨_, this.symm⟩
            · by_cases hok : O j
              · exact .inl hok
              by_cases hjs : W.heap.size ≤ j
              · exact .inr (.inl hjs)
              rcases (h2 j hj).2 with h | h | ⟨hb, h⟩
              · exact (HO'.out j h).2
              · have := HK.out.size
                simp only [World.size_alloc] at h
                omega
              · refine .inr (.inr ⟨hb, fun hn => h ?_⟩)
                have e1 := HK.out.block j (by omega) (.inr ⟨.inr ⟨hb, hok⟩, hn⟩)
                have hjw : j < wr.heap.size := by have := HK.out.size; omega
                intro c fz hc
                rw [Below.heap_alloc _ _ _ hjw] at hc
                exact hn c fz (e1 ▸ hc)
          have HNX := Lib.hid hnext
          clear hnext HLk
          gi_wp2_with (refine ⟨trivial, rfl, ?_⟩; refine hic.mono ?_; rintro e W3 hvo; obtain ⟨h31, h32, ok, rfl, O3, h33, h3⟩ := (HNX.out e W3 hvo).out; have H1 := Lib.hid h31; have H3 := Lib.hid h33; have H4 := Lib.hid h3; clear h31 h33 h3 hvo HNX hic c0 c1 c2 c3)
          · rcases H4.out with ⟨rfl, _⟩ | ⟨rfl, pre', hpx, hjx⟩
            · exact absurd ‹(!true) = true› (by decide)
            · go_ret
              exact ⟨H1.out, O3, H3.out, .inr ⟨rfl, pre', hpx, hjx⟩⟩
          · rcases H4.out with ⟨rfl, ys, hy, hj⟩ | ⟨rfl, _⟩
            · go_roundw
              case rel => exact ⟨k + 1, O3, ys, by omega, rfl, by simp, H1, H3, Lib.hid hy, Lib.hid hj, Lib.hid h32⟩
              case measure => simp [intOf]; omega
            · exact absurd ‹(!false) = false› (by decide)
        · obtain rfl : k = r.l.length := by omega
          gi_wp2
          go_ret
          refine ⟨HK.out, O', HO'.out, .inl ⟨rfl, xs, ?_, HJ'.out⟩⟩
          rw [HXS.out, HH.out, List.take_length]
    · gi_wp2
      go_ret
      refine ⟨hk2, O2, fun k hk => ⟨(hO2 k hk).1, ?_⟩, .inr ⟨rfl, pre ++ [x], ?_, hJx2⟩⟩
      rotate_left
      · obtain ⟨h1, h2, _⟩ := HX.out
        exact ⟨Rp.headsL (lev + 1) r.l, by rw [HH.out]; simp [PV.hl, h1, h2]⟩
      rcases (hO2 k hk).2 with h | h | h
      · exact .inl h
      · exact .inr (.inl (by simp at h; omega))
      · by_cases hlt : k < W.heap.size
        · exact .inr (.inr ⟨h.1, fun hn => h.2 fun c fz hc => hn c fz (by rwa [Below.heap_alloc _ _ _ hlt] at hc)⟩)
        · exact .inr (.inl (by omega))

set_option maxHeartbeats 1000000 in
theorem parts_any (k : Int) (s : List UInt8) (n : Int) (a : Option Addr) (m cap : Nat) (w : World) :
    CallsIn Fence.wide 0 Tryd.prog 23 #[rv k s n a m cap] w fun e w' => e = .returned (.func (.func 33) #[] #[.pointer (some ⟨w.heap.size, 0, none⟩)]) ∧ w' = w.alloc (.cells #[.int .i64 k, .string ⟨s.toArray⟩, .int .i64 n, .slice a m cap] 24) := by
  refine callsIn_of_wp Tryd.func23 rfl trivial ?_ rfl
  simp only [Tryd.ntmps23, List.size_toArray, List.length_cons, List.length_nil, Nat.reduceAdd, Nat.reduceSub, Array.replicate_succ, Array.replicate_zero, List.push_toArray, List.append_toArray, List.nil_append, List.cons_append]
  unfold rv
  gi_wp2
  go_ret
  exact ⟨rfl, rfl⟩

set_option maxRecDepth 100000 in
set_option maxHeartbeats 2000000 in
theorem parts_seq (st : Bool) (Bs : Nat) (r : Rp.R) (a : Option Addr) (cap : Nat) (w : World) (hcas : AllQ Q (Rp.heads 0 r)) (hsz : (Rp.heads 0 r).length ≤ 1000000) (hBs : Bs < w.heap.size)
    (hbox : w.heap[Bs]? = some (.cells #[.int .i64 r.k, .string ⟨r.s.toArray⟩, .int .i64 r.n, .slice a r.l.length cap] 24 (0, 0))) (Dt : Nat → Prop) (hrep : Rep Dt w r (rv r.k r.s r.n a r.l.length cap)) :
    SeqN st Tryd.prog 33 #[.pointer (some ⟨Bs, 0, none⟩)] (encV (Q := Q)) Dt (fun _ => False) (fun xs => xs.map PV.hl = Rp.heads 0 r) (fun pre => pre.map PV.hl <+: Rp.heads 0 r) (Rp.heads 0 r).length w := by
  intro l J Jx W hW hJ _ _ hY h0
  have hbox' := (hW.block Bs hBs).trans hbox
  obtain ⟨b0, b1, b2, b3⟩ := cells_four hbox'
  have hv := visit_any l W.heap.size Dt J Jx (Rp.heads 0 r).length hJ hY _ r 0 _ W (fun _ => False) [] (Nat.le_refl _) (by omega) hcas (hrep.later hW) (Nat.le_refl _) (fun _ h => h.elim) h0 (by simp)
  unfold rv at hv
  have HV := Lib.hid hv
  clear hv hY hbox hbox' hrep
  refine callsIn_of_wp Tryd.func33 rfl trivial ?_ rfl
  simp only [Tryd.ntmps33, List.size_toArray, List.length_cons, List.length_nil, Nat.reduceAdd, Nat.reduceSub, Array.replicate_succ, Array.replicate_zero, List.push_toArray, List.append_toArray, List.nil_append, List.cons_append]
  gi_wp2_with (refine ⟨trivial, rfl, ?_⟩; refine HV.out.mono ?_; rintro e W3 hvo; obtain ⟨ok, rfl⟩ := hvo.ret; have H3 := Lib.hid hvo; clear hvo)
  · obtain ⟨h1, O', h2, h3⟩ := H3.out
    go_end0
    refine ⟨⟨_, rfl⟩, h1.size, O', fun k hk => ⟨?_, (h2 k hk).1⟩, ?_⟩
    · rcases (h2 k hk).2 with h | h | h
      · exact h.elim
      · exact h
      · exact h.1
    rcases h3 with ⟨_, xs, hx, hj⟩ | ⟨_, pre', hp, hj⟩
    · exact .inl ⟨xs, hx, by simpa using hj⟩
    · exact .inr ⟨pre', by simpa using hp, hj⟩
end Go.Proofs.YtcjbfgkmpoebgaaDoor
namespace Go.Proofs.YtcjbfgkmpoebgaaDoor
open Go.RowKit Go.Shelf
attribute [local go_sem] Oper.semAt_some
variable {Q : Rp.H → Prop}

/-- a loop's variable that is a part, boxed, in a block of its own. -/
def VVar (b : Nat) (mk : Nat → (PV Q) → Act) (O : Nat → Prop) (x : (PV Q)) (a' : Act) (A : World) : Prop :=
  ∃ Bx, b ≤ Bx ∧ ¬ O Bx ∧ A.heap[Bx]? = some (.cells #[.int .i64 x.h.k, .string ⟨x.h.s.toArray⟩, .int .i64 x.h.n, .slice x.a x.h.m x.cap] 24 (0, 0)) ∧ a' = mk Bx x

theorem VVar.later {b n : Nat} {mk : Nat → (PV Q) → Act} {O : Nat → Prop} {x : (PV Q)} {a' : Act} {A C : World} (h : VVar b mk O x a' A) (hn : n < b) (hk : Keeps (fun k => k ≠ n) A C) : VVar b mk O x a' C := by
  obtain ⟨Bx, h1, h2, h3, h4⟩ := h
  exact ⟨Bx, h1, h2, hk.heap h3 (by omega), h4⟩

theorem may_true {r : Rp.R} {xs : List (PV Q)} (h : xs.map PV.hl = Rp.heads 0 r) (ha : ∀ x ∈ xs, Rp.okB x.hl = true) : Rp.mayB r = true := by
  unfold Rp.mayB
  rw [← h, List.all_eq_true]
  intro p hp
  obtain ⟨x, hx, rfl⟩ := List.mem_map.1 hp
  exact ha x hx

theorem may_false {r : Rp.R} {xs : List (PV Q)} (h : xs.map PV.hl <+: Rp.heads 0 r) {x : (PV Q)} (hx : x ∈ xs) (ha : Rp.okB x.hl = false) : Rp.mayB r = false := by
  unfold Rp.mayB
  rw [List.all_eq_false]
  exact ⟨x.hl, h.subset (List.mem_map.2 ⟨x, hx, rfl⟩), by simp [ha]⟩

set_option maxRecDepth 100000 in
set_option maxHeartbeats 4000000 in
theorem may_any (r : Rp.R) (a : Option Addr) (cap : Nat) (w : World) (hsz : (Rp.heads 0 r).length ≤ 1000000) (hcas : AllQ CAQ (Rp.heads 0 r)) (hrep : Rep (fun k => k < w.heap.size) w r (rv r.k r.s r.n a r.l.length cap)) :
    CallsIn Fence.wide 0 Tryd.prog 11 #[rv r.k r.s r.n a r.l.length cap] w fun e W' => e = .returned (.bool (Rp.mayB r)) ∧ Below w.heap.size w W' := by
  obtain ⟨w1, hw1⟩ : ∃ w1, (w.alloc (.cells #[.int .i64 r.k, .string ⟨r.s.toArray⟩, .int .i64 r.n, .slice a r.l.length cap] 24)).alloc (.cells #[.bool false] 4) = w1 := ⟨_, rfl⟩
  have hp := parts_any r.k r.s r.n a r.l.length cap w1
  have hs1 : w1.heap.size = w.heap.size + 2 := by rw [← hw1]; simp
  have hB1 : Below w.heap.size w w1 := by rw [← hw1]; exact ((Below.refl _ w).alloc (Nat.le_refl _) _).alloc (by simp) _
  have hbr : Boxed w1 (w.heap.size + 1) 4 (.bool false) := by
    rw [← hw1]
    have := Boxed.new (w.alloc (.cells #[.int .i64 r.k, .string ⟨r.s.toArray⟩, .int .i64 r.n, .slice a r.l.length cap] 24)) 4 (.bool false)
    rwa [World.size_alloc] at this
  rw [hs1] at hp
  have HREP := Lib.hid hrep
  have HB1 := Lib.hid hB1
  have HS1 := Lib.hid hs1
  have HBR := Lib.hid hbr
  have HCAS := Lib.hid hcas
  clear hrep hB1 hs1 hbr hcas
  subst hw1
  unfold rv at hp ⊢
  refine callsIn_of_wp_marks Tryd.func11 rfl trivial ?_ rfl
  simp only [Tryd.ntmps11, List.size_toArray, List.length_cons, List.length_nil, Nat.reduceAdd, Nat.reduceSub, Array.replicate_succ, Array.replicate_zero, List.push_toArray, List.append_toArray, List.nil_append, List.cons_append]
  gi_wp2_with (refine ⟨trivial, rfl, ?_⟩; refine hp.mono ?_; rintro e w2 ⟨rfl, hw2⟩; have HW2 := Lib.hid hw2; clear hw2)
  have hw2 := HW2.out
  clear HW2
  have hs1 := HS1.out
  have hB2 : Below w.heap.size w w2 := by rw [hw2]; exact HB1.out.alloc (by omega) _
  have hbr : Boxed w2 (w.heap.size + 1) 4 (.bool false) := by rw [hw2]; exact HBR.out.alloc _
  have hbox : w2.heap[w.heap.size + 2]? = some (.cells #[.int .i64 r.k, .string ⟨r.s.toArray⟩, .int .i64 r.n, .slice a r.l.length cap] 24 (0, 0)) := by rw [hw2, ← hs1]; exact World.alloc_heap_new _ _
  have hs2 : w2.heap.size = w.heap.size + 3 := by rw [hw2, World.size_alloc, hs1]
  clear hw2 HB1 HS1 HBR hs1
  have hseq := parts_seq true (w.heap.size + 2) r a cap w2 HCAS.out hsz (by omega) hbox (fun k => k < w.heap.size) (Rep.keeps (Keeps.of_below hB2 fun _ h _ => h) (fun _ h _ => h) r _ HREP.out)
  clear hbox
  refine wpIn_rangeN (gf := 33) (lb := #[.pointer (some ⟨w.heap.size + 2, 0, none⟩)]) rfl (enters_of Tryd.func33 (by kernel_rfl) rfl)
    hseq (Below.refl _ _) (fun k h => by omega) (fun k h => h.elim) (fun _ => rfl)
    (fun _ pre W => Boxed W (w.heap.size + 1) 4 (.bool false) ∧ (∀ x ∈ pre, Rp.okB x.hl = true) ∧ Below w.heap.size w W)
    (fun c _ pre W => c = .ret ∧ Boxed W (w.heap.size + 1) 4 (.bool false) ∧ (∃ x ∈ pre, Rp.okB x.hl = false) ∧ Below w.heap.size w W)
    ?hI ?hIx (fun h => by cases h) ⟨hbr, fun x h => absurd h (by simp), hB2⟩
    (VVar (Q := CAQ) (w2.heap.size + 2) (fun Bx x => { tmps := #[.agg #[.int .i64 r.k, .string ⟨r.s.toArray⟩, .int .i64 r.n, .slice a r.l.length cap], .pointer (some ⟨w.heap.size, 0, none⟩), .pointer (some ⟨w.heap.size + 1, 0, none⟩), .pointer (some ⟨Bx, 0, none⟩), .int .i64 x.lev, .agg #[.int .i64 r.k, .string ⟨r.s.toArray⟩, .int .i64 r.n, .slice a r.l.length cap], .func (.func 33) #[] #[.pointer (some ⟨w.heap.size + 2, 0, none⟩)], rv x.h.k x.h.s x.h.n x.a x.h.m x.cap, .int .i64 x.lev, undef, undef, undef, undef, undef, undef, undef, undef, undef, undef, undef, undef], defers := [] }))
    (fun O x a' A C h hk => h.later (by omega) hk) ?assign ?body ?done ?stop
  case hI =>
    rintro O s A C ⟨h1, h2, h3⟩ hk
    have own : ∀ k, k < w2.heap.size → IterS (fun _ => False) w2.heap.size O k := fun k h => ⟨id, .inl h⟩
    exact ⟨hk.heap h1 (own _ (by omega)), h2, h3.trans (hk.below h3.size fun k hk' => own k (by omega))⟩
  case hIx =>
    rintro c O s A C ⟨h0, h1, h2, h3⟩ hk
    have own : ∀ k, k < w2.heap.size → IterS (fun _ => False) w2.heap.size O k := fun k h => ⟨id, .inl h⟩
    exact ⟨h0, hk.heap h1 (own _ (by omega)), h2, h3.trans (hk.below h3.size fun k hk' => own k (by omega))⟩
  case assign =>
    intro O pre x A K hO hA ⟨hb, hall, hB⟩ hK
    have HK := Lib.hid hK
    have HA := Lib.hid hall
    clear hK hall
    unfold encV rv
    gi_wp2
    exact HK.out _ _ (KeepsN.refl _ _ _ |>.alloc _) ⟨hb.alloc _, HA.out, hB.alloc hB.size _⟩ ⟨A.heap.size, by omega, fun h => by have := (hO _ h).2; omega, World.alloc_heap_new A _, rfl⟩
  case body =>
    rintro O pre x a' A hO hA ⟨r', hr⟩ ⟨hb, hall, hB⟩ ⟨Bx, hBx, hnO, hcx, rfl⟩ hlen
    have b1 := hb.cell
    have b2 := hb.frozen
    have HA := Lib.hid hall
    have HO := Lib.hid hO
    obtain ⟨x0, x1, x2, x3⟩ := cells_four hcx
    have hfc := in_round (l := w2.heap.size + 1) (fits_any x.h.k x.h.s x.h.n x.a x.h.m x.cap A x.fit x.q)
    unfold rv at hfc ⊢
    have HOK : Hid (Rp.okB x.hl = (Rp.fitsB ⟨x.h.k, x.h.s, x.h.n, x.h.m⟩ && !((x.h.k == 6) && decide ((8 : Int) ≤ (x.lev : Int))))) := Lib.hid (by
      have e8 : decide (8 ≤ x.lev) = decide ((8 : Int) ≤ (x.lev : Int)) := decide_eq_decide.2 (by omega)
      unfold Rp.okB PV.hl
      rw [e8]
      rfl)
    have HLow := Lib.hid x.low
    have hxl : (x.lev : Int) ≤ 1000000 := by have := x.low; omega
    have HN : ∀ W2, Below A.heap.size A W2 → Hid (W2.cell? ⟨Bx, 0, none⟩ = some (.int .i64 x.h.k) ∧ W2.cell? ⟨w.heap.size + 1, 0, none⟩ = some (.bool false) ∧ W2.frozen? ⟨w.heap.size + 1, 0, none⟩ = false ∧
        (KeepsN (fun k => k < w.heap.size) (OwnS (fun _ => False) w2.heap.size O) A W2 ∧ GrowsN (w2.heap.size + 2) O O A W2 ∧ Boxed W2 (w.heap.size + 1) 4 (.bool false) ∧ Below w.heap.size w W2) ∧
        (KeepsN (fun k => k < w.heap.size) (OwnS (fun _ => False) w2.heap.size O) A (W2.setCell ⟨w.heap.size + 1, 0, none⟩ (.bool false)) ∧ GrowsN (w2.heap.size + 2) O O A (W2.setCell ⟨w.heap.size + 1, 0, none⟩ (.bool false)) ∧ Boxed (W2.setCell ⟨w.heap.size + 1, 0, none⟩ (.bool false)) (w.heap.size + 1) 4 (.bool false) ∧ Below w.heap.size w (W2.setCell ⟨w.heap.size + 1, 0, none⟩ (.bool false)))) := fun W2 hb2 => by
      have hk2 : KeepsN (fun k => k < w.heap.size) (OwnS (fun _ => False) w2.heap.size O) A W2 := KeepsN.of_keeps (Keeps.of_below hb2 fun k h _ => h)
      have hbx2 : Boxed W2 (w.heap.size + 1) 4 (.bool false) := (hb2.block _ (by omega)).trans hb
      have hbw2 : Below w.heap.size w W2 := hB.trans (hb2.mono (by omega))
      have hsz2 := hb2.size
      have hbxl : Bx < A.heap.size := (Array.getElem?_eq_some_iff.1 hcx).1
      refine Lib.hid ⟨(hb2.cell (p := ⟨Bx, 0, none⟩) hbxl).trans x0, hbx2.cell, hbx2.frozen, ⟨hk2, GrowsN.same fun k hk => by have := (HO.out k hk).2; omega, hbx2, hbw2⟩, hk2.setCell (.inr ?_) _, GrowsN.same fun k hk => by have := (HO.out k hk).2; simp; omega, hbx2.set _, hbw2.setCell (p := ⟨w.heap.size + 1, 0, none⟩) (Nat.le_succ _) _⟩
      rintro (h | h | h)
      · have h : w.heap.size + 1 < w.heap.size := h
        omega
      · exact h
      · have := h.1
        simp at this
        omega
    have HNN := Lib.hid HN
    clear hall hr hcx HN hb hB hO
    generalize Rp.fitsB ⟨x.h.k, x.h.s, x.h.n, x.h.m⟩ = fb at hfc HOK
    obtain ⟨q6, hq6⟩ : ∃ q, (x.h.k == 6) = q := ⟨_, rfl⟩
    obtain ⟨q8, hq8⟩ : ∃ q, decide ((8 : Int) ≤ (x.lev : Int)) = q := ⟨_, rfl⟩
    have HO2 : Hid (Rp.okB x.hl = (fb && !(q6 && q8))) := Lib.hid (by rw [HOK.out, hq6, hq8])
    have HGO : Hid (Rp.okB x.hl = true → ∀ y ∈ pre ++ [x], Rp.okB y.hl = true) := Lib.hid fun h y hy => by
      rcases List.mem_append.1 hy with hy | hy
      · exact HA.out y hy
      · rw [List.mem_singleton.1 hy]; exact h
    have HNO : Hid (Rp.okB x.hl = false → ∃ y ∈ pre ++ [x], Rp.okB y.hl = false) := Lib.hid fun h => ⟨x, by simp, h⟩
    clear HOK HA
    cases fb <;> cases q6 <;> cases q8 <;>
      (gi_wp2_with (refine ⟨trivial, rfl, ?_⟩; refine hfc.mono ?_; rintro e W2 ⟨rfl, hb2⟩; have HW := HNN.out W2 hb2; obtain ⟨y0, y1, y2, -⟩ := HW.out; clear hb2 hfc HNN)
       first
       | exact ⟨HW.out.2.2.2.1.1, O, HW.out.2.2.2.1.2.1, HW.out.2.2.2.1.2.2.1, HGO.out HO2.out, HW.out.2.2.2.1.2.2.2⟩
       | exact ⟨HW.out.2.2.2.2.1, O, HW.out.2.2.2.2.2.1, rfl, HW.out.2.2.2.2.2.2.1, HNO.out HO2.out, HW.out.2.2.2.2.2.2.2⟩)
  case done =>
    rintro O D xs A hD hDs hO - hSx ⟨hb, hall, hB⟩ hDd
    have HS := Lib.hid (may_true hSx hall)
    have b1 := hb.cell
    have b2 := hb.frozen
    clear hSx hall
    gi_wp2
    have hk : Keeps (fun k => k ≠ D) (A.setCell ⟨w.heap.size + 1, 0, none⟩ (.bool true)) ((A.setCell ⟨w.heap.size + 1, 0, none⟩ (.bool true)).putObj D (.deferred none)) := (Keeps.refl _ _).putObj (fun h => h rfl) _
    have hbt := hk.heap (hb.set (.bool true)) (by omega)
    have hDd' : (A.setCell ⟨w.heap.size + 1, 0, none⟩ (.bool true)).heap[D]? = some (.deferred (some [])) := (Below.heap_setCell _ _ _ _ (by simp; omega)).trans hDd
    refine ⟨by simp, .inl ⟨_, _, rfl, run_takeDeferred hDd', ?_⟩⟩
    refine ⟨_, results_cell (t := 2) (T := 4) (p := ⟨w.heap.size + 1, 0, none⟩) rfl rfl (loadVar4 _ _ _ (Boxed.cell hbt)), by rw [HS.out], ?_⟩
    exact (hB.setCell (p := ⟨w.heap.size + 1, 0, none⟩) (Nat.le_succ _) _).trans (hk.below (n := w.heap.size) (by simp; exact hB.size) fun k hk' => by omega)
  case stop =>
    rintro O D c pre A hD hDs hO - hSp ⟨rfl, hb, ⟨x, hx, hox⟩, hB⟩ hDd
    have HS := Lib.hid (may_false hSp hx hox)
    have b1 := hb.cell
    clear hSp hox
    gi_wp2
    have hk : Keeps (fun k => k ≠ D) A (A.putObj D (.deferred none)) := (Keeps.refl _ _).putObj (fun h => h rfl) _
    have hbt := hk.heap hb (by omega)
    refine ⟨by simp, .inl ⟨_, _, rfl, run_takeDeferred hDd, ?_⟩⟩
    refine ⟨_, results_cell (t := 2) (T := 4) (p := ⟨w.heap.size + 1, 0, none⟩) rfl rfl (loadVar4 _ _ _ (Boxed.cell hbt)), by rw [HS.out], ?_⟩
    exact hB.trans (hk.below hB.size fun k hk' => by omega)
end Go.Proofs.YtcjbfgkmpoebgaaDoor
