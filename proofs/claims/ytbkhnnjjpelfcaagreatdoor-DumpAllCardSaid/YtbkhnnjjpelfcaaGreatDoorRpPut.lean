/- The contract of resp.fits. The iterator over a reply and all within it: visit, parts. The contract of resp.May. The contract of resp.withOwn. The contract of resp.Put. -/
import Derived.Test.YtbkhnnjjpelfcaaGreatDoorRpBase
import Derived.Test.YtbkhnnjjpelfcaaGreatDoorShelf
import Derived.Test.YtbkhnnjjpelfcaaGreatDoorRpOwn
import Derived.Deep.Cut
import Derived.Deep.QuietTactic
import Derived.Deep.RegionWith
import Derived.StillTailTactics
namespace Go.Proofs.YtbkhnnjjpelfcaaGreatDoor
open Go.RowKit Go.Shelf
attribute [local go_sem] Oper.semAt_some

theorem str_size (s : List UInt8) : (⟨s.toArray⟩ : ByteArray).size = s.length := by show s.toArray.size = _; simp
theorem str_toList (s : List UInt8) : (⟨s.toArray⟩ : ByteArray).toList = s := by rw [Lib.toList_data]
theorem str_empty (s : List UInt8) : ((⟨s.toArray⟩ : ByteArray).toList == (⟨#[]⟩ : ByteArray).toList) = decide (s = []) := by
  rw [str_toList, Lib.toList_data]
  cases s with
  | nil => rfl
  | cons x s => simp

set_option maxRecDepth 100000 in
set_option maxHeartbeats 4000000 in
theorem rpFits_any (k : Int) (s : List UInt8) (n : Int) (a : Option Addr) (m cap : Nat) (w : World) (hf : Fit k s n m cap) (hca : k = 1 ∨ k = 2 → CA s) :
    Calls Tryz.prog 79 #[rv k s n a m cap] w fun e w' => e = .returned (.bool (Rp.fitsB ⟨k, s, n, m⟩)) ∧ Below w.heap.size w w' := by
  have hsz := str_size s
  have hse := str_empty s
  unfold Fit at hf
  obtain ⟨f1, f2, f3, f4, f5, f6, f7⟩ := hf
  unfold rv
  have hm0 : decide (m = 0) = ((m : Int) == 0) := by by_cases h : m = 0 <;> simp [h]
  have hm1 : decide (m ≤ 65536) = decide ((m : Int) ≤ 65536) := by by_cases h : m ≤ 65536 <;> simp [h] <;> omega
  have hn0 : decide (n = 0) = (n == 0) := by by_cases h : n = 0 <;> simp [h]
  obtain ⟨fb, hfb⟩ : ∃ fb, Rp.fitsB ⟨k, s, n, m⟩ = fb := ⟨_, rfl⟩
  rw [hfb]
  have HN : ∀ (k n : Int) (s : List UInt8) (m : Nat), Hid (Below w.heap.size w (w.alloc (.cells #[.int .i64 k, .string ⟨s.toArray⟩, .int .i64 n, .slice a m cap] 45))) := fun _ _ _ _ => Lib.hid ((Below.refl _ w).alloc (Nat.le_refl _) _)
  by_cases k1 : k = 1 ∨ k = 2
  · clear hse
    have hca' := fun h => hca k1 h (w.alloc (.cells #[.int .i64 k, .string ⟨s.toArray⟩, .int .i64 n, .slice a m cap] 45))
    have HCA := Lib.hid hca'
    have e1 : fb = (decide (s.length ≤ 512) && Rp.plainB s && (n == 0) && ((m : Int) == 0)) := by rw [← hfb, ← hm0, ← hn0]; unfold Rp.fitsB; rw [if_pos k1]
    have E1 := Lib.hid e1
    clear hca hca' e1 hfb hm0 hm1 hn0
    by_cases hl : s.length ≤ 512
    · have hc := HCA.out hl
      have hl' : ((s.length : Int)) ≤ 512 := by omega
      clear HCA
      generalize Rp.plainB s = pb at hc E1
      cases pb <;> rcases Decidable.em (n = 0) with rfl | hn <;> rcases k1 with rfl | rfl <;>
        (go_enter Tryz.func79, Tryz.ntmps79
         go_wp2_with (go_at_call 101; refine hc.mono ?_; rintro e W2 ⟨rfl, hb2⟩; have hbx := (hb2.block w.heap.size (by simp)).trans (World.alloc_heap_new w _); obtain ⟨y0, y1, y2, y3⟩ := cells_four hbx; clear hbx; have HB2 := Lib.hid hb2; clear hb2 hc)
         go_ret
         refine ⟨by rw [E1.out]; simp [*], (HN _ _ _ _).out.trans (HB2.out.mono (HN _ _ _ _).out.size)⟩)
    · have hl' : ¬ ((s.length : Int)) ≤ 512 := by omega
      clear HCA
      rcases k1 with rfl | rfl <;>
        (go_enter Tryz.func79, Tryz.ntmps79
         go_wp2
         go_ret
         exact ⟨by rw [E1.out]; simp [hl], (HN _ _ _ _).out⟩)
  · clear hca
    by_cases k3 : k = 3
    · have E1 : Hid (fb = (decide (s = []) && ((m : Int) == 0))) := Lib.hid (by rw [← hfb]; (try rw [← hm0]); (try rw [← hn0]); (try rw [← hm1]); unfold Rp.fitsB; simp [k3])
      clear k1 hfb hm0 hm1 hn0
      rcases Decidable.em (s = []) with hs | hs <;> subst k3 <;>
        (simp only [hs, decide_true, decide_false] at hse
         have HS := Lib.hid hs
         clear hs
         go_enter Tryz.func79, Tryz.ntmps79
         go_wp2
         go_ret
         exact ⟨by rw [E1.out]; have := HS.out; simp [this], (HN _ _ _ _).out⟩)
    · by_cases k4 : k = 4
      · have E1 : Hid (fb = (decide (s.length ≤ 1048576) && (n == 0) && ((m : Int) == 0))) := Lib.hid (by rw [← hfb]; (try rw [← hm0]); (try rw [← hn0]); (try rw [← hm1]); unfold Rp.fitsB; simp [k4])
        clear k1 k3 hfb hm0 hm1 hn0
        clear hse
        subst k4
        rcases Decidable.em ((s.length : Int) ≤ 1048576) with hl | hl <;> rcases Decidable.em (n = 0) with rfl | hn <;>
          (go_enter Tryz.func79, Tryz.ntmps79
           go_wp2
           go_ret
           exact ⟨by rw [E1.out]; simp [*]; try omega, (HN _ _ _ _).out⟩)
      · by_cases k5 : k = 5
        · have E1 : Hid (fb = (decide (s = []) && (n == 0) && ((m : Int) == 0))) := Lib.hid (by rw [← hfb]; (try rw [← hm0]); (try rw [← hn0]); (try rw [← hm1]); unfold Rp.fitsB; simp [k5])
          clear k1 k3 k4 hfb hm0 hm1 hn0
          subst k5
          rcases Decidable.em (s = []) with hs | hs <;> rcases Decidable.em (n = 0) with rfl | hn <;>
            (simp only [hs, decide_true, decide_false] at hse
             have HS := Lib.hid hs
             clear hs
             go_enter Tryz.func79, Tryz.ntmps79
             go_wp2
             go_ret
             exact ⟨by rw [E1.out]; have := HS.out; simp [*], (HN _ _ _ _).out⟩)
        · by_cases k6 : k = 6
          · have E1 : Hid (fb = (decide (s = []) && (n == 0) && decide ((m : Int) ≤ 65536))) := Lib.hid (by rw [← hfb]; (try rw [← hm0]); (try rw [← hn0]); (try rw [← hm1]); unfold Rp.fitsB; simp [k6])
            clear k1 k3 k4 k5 hfb hm0 hm1 hn0
            subst k6
            rcases Decidable.em (s = []) with hs | hs <;> rcases Decidable.em (n = 0) with rfl | hn <;>
              (simp only [hs, decide_true, decide_false] at hse
               have HS := Lib.hid hs
               clear hs
               go_enter Tryz.func79, Tryz.ntmps79
               go_wp2
               go_ret
               exact ⟨by rw [E1.out]; have := HS.out; simp [*], (HN _ _ _ _).out⟩)
          · have E1 : Hid (fb = false) := Lib.hid (by rw [← hfb]; (try rw [← hm0]); (try rw [← hn0]); (try rw [← hm1]); unfold Rp.fitsB; simp [k1, k3, k4, k5, k6])
            have k1' : ¬ k = 1 := fun h => k1 (.inl h)
            have k2' : ¬ k = 2 := fun h => k1 (.inr h)
            clear k1 hfb hm0 hm1 hn0 hse
            go_enter Tryz.func79, Tryz.ntmps79
            go_wp2
            go_ret
            exact ⟨by rw [E1.out]; rfl, (HN _ _ _ _).out⟩
end Go.Proofs.YtbkhnnjjpelfcaaGreatDoor
namespace Go.Proofs.YtbkhnnjjpelfcaaGreatDoor
open Go.RowKit Go.Shelf
attribute [local go_sem] Oper.semAt_some

/-- a part as the walk hands it on. -/
structure PV (Q : Rp.H → Prop) where
  h : Rp.H
  lev : Nat
  a : Option Addr
  cap : Nat
  fit : Fit h.k h.s h.n h.m cap
  low : lev ≤ 1000000
  q : Q h

variable {Q : Rp.H → Prop}

def PV.hl (x : PV Q) : Rp.H × Nat := (x.h, x.lev)
def encV (x : (PV Q)) : Array Value := #[rv x.h.k x.h.s x.h.n x.a x.h.m x.cap, .int .i64 x.lev]

/-- what a round of such a walk is known to do. -/
def RoundV (l B0 : Nat) (Dt : Nat → Prop) (J Jx : (Nat → Prop) → List (PV Q) → World → Prop) (N : Nat) : Prop :=
  ∀ O pre x W1, (∀ k, O k → B0 ≤ k ∧ k < W1.heap.size) → B0 ≤ W1.heap.size → J O pre W1 → pre.length < N → YieldAt Fence.wide 0 Tryz.prog l (encV x) W1 fun e W' =>
      KeepsN Dt (OwnS (fun _ => False) B0 O) W1 W' ∧ ∃ O', GrowsN B0 O O' W1 W' ∧ ((e = .returned (.bool true) ∧ J O' (pre ++ [x]) W') ∨ (e = .returned (.bool false) ∧ Jx O' (pre ++ [x]) W'))

/-- what a visit leaves. -/
def VisOut (B0 : Nat) (Dt : Nat → Prop) (J Jx : (Nat → Prop) → List (PV Q) → World → Prop) (O : Nat → Prop) (pre : List (PV Q)) (hs : List (Rp.H × Nat)) (W : World) (e : Ending) (W' : World) : Prop :=
  KeepsN Dt (OwnS (fun _ => False) B0 O) W W' ∧ ∃ O', GrowsN B0 O O' W W' ∧
    ((e = .returned (.bool true) ∧ ∃ xs, xs.map PV.hl = hs ∧ J O' (pre ++ xs) W') ∨ (e = .returned (.bool false) ∧ ∃ pre' : List (PV Q), pre'.map PV.hl <+: pre.map PV.hl ++ hs ∧ Jx O' pre' W'))

theorem VisOut.ret {B0 : Nat} {Dt : Nat → Prop} {J Jx : (Nat → Prop) → List (PV Q) → World → Prop} {O : Nat → Prop} {pre : List (PV Q)} {hs : List (Rp.H × Nat)} {W : World} {e : Ending} {W' : World} (h : VisOut B0 Dt J Jx O pre hs W e W') : ∃ ok : Bool, e = .returned (.bool ok) := by
  obtain ⟨_, _, _, (⟨h, _⟩ | ⟨h, _⟩)⟩ := h
  · exact ⟨_, h⟩
  · exact ⟨_, h⟩

theorem KeepsN.trans' {D S S' : Nat → Prop} {A B C : World} (h : KeepsN D S A B) (k : KeepsN D S' B C) (hs : ∀ i, i < A.heap.size → NB A i → S i → S' i) : KeepsN D S A C :=
  ⟨k.os.trans h.os, k.tape.trans h.tape, k.output.trans h.output, Nat.le_trans h.size (KeepsN.size k), fun i hi hd => by
    have e := h.block i hi hd
    refine (k.block i (Nat.lt_of_lt_of_le hi h.size) (hd.imp id fun hd => ⟨hs i hi hd.2 hd.1, fun c fz hc => hd.2 c fz (e ▸ hc)⟩)).trans e⟩

theorem KeepsN.dt {D S : Nat → Prop} {A B : World} (h : KeepsN D S A B) : Keeps D A B := Keeps.mono h fun _ _ h => .inl h

theorem zero24 (w : World) : (zeroValue 45).run Tryz.prog w = .ok (.agg #[.int .i64 0, .string ⟨#[]⟩, .int .i64 0, .slice none 0 0]) w := by kernel_rfl

set_option maxRecDepth 100000 in
set_option maxHeartbeats 4000000 in
theorem visit_any (l B0 : Nat) (Dt : Nat → Prop) (J Jx : (Nat → Prop) → List (PV Q) → World → Prop) (N : Nat) (hJ : AbidesT B0 (fun _ => False) J) (hY : RoundV l B0 Dt J Jx N) :
    ∀ (sz : Nat) (r : Rp.R) (lev : Nat) (v : Value) (W : World) (O : Nat → Prop) (pre : List (PV Q)), (Rp.heads 0 r).length ≤ sz → lev + (Rp.heads 0 r).length ≤ 1000000 → AllQ Q (Rp.heads lev r) → Rep Dt W r v → B0 ≤ W.heap.size → (∀ k, O k → B0 ≤ k ∧ k < W.heap.size) → J O pre W → pre.length + (Rp.heads 0 r).length ≤ N →
      CallsIn Fence.wide 0 Tryz.prog 81 #[v, .int .i64 lev, .func (.yield l) #[] #[]] W (VisOut B0 Dt J Jx O pre (Rp.heads lev r) W) := by
  intro sz
  induction sz with
  | zero => intro r lev v W O pre h; have := Rp.heads_ne 0 r; omega
  | succ sz ih =>
    intro r lev v W O pre hsz hlev hcas hrep hB hO hj hN
    obtain ⟨a, cap, rfl, hfit, hl⟩ := hrep.parts
    have hsl : ∀ i (hi : i < r.l.length), (Rp.heads 0 r.l[i]).length ≤ sz ∧ (Rp.headsL 0 (r.l.take i)).length + (Rp.heads 0 r.l[i]).length + 1 ≤ (Rp.heads 0 r).length := fun i hi => by
      have h1 := congrArg List.length (Rp.heads_eq 0 r)
      rw [List.length_cons, Rp.headsL_len 1 0] at h1
      have h2 := congrArg List.length (Rp.headsL_take 0 hi)
      rw [List.length_append] at h2
      have h3 := Rp.headsL_take_le 0 r.l (i + 1)
      omega
    have HSL := Lib.hid hsl
    have HN : Hid (pre.length + (Rp.heads 0 r).length ≤ N ∧ lev + (Rp.heads 0 r).length ≤ 1000000) := Lib.hid ⟨hN, hlev⟩
    have h1n := Rp.heads_ne 0 r
    have HCA := Lib.hid hcas
    have HH := Lib.hid (Rp.heads_eq lev r)
    obtain ⟨x, hx⟩ : ∃ x : (PV Q), x.h = ⟨r.k, r.s, r.n, r.l.length⟩ ∧ x.lev = lev ∧ x.a = a ∧ x.cap = cap := ⟨⟨⟨r.k, r.s, r.n, r.l.length⟩, lev, a, cap, hfit, by omega, hcas (⟨r.k, r.s, r.n, r.l.length⟩, lev) (by rw [Rp.heads_eq]; simp)⟩, rfl, rfl, rfl, rfl⟩
    obtain ⟨W1, hW1⟩ : ∃ W1, W.alloc (.cells #[.int .i64 r.k, .string ⟨r.s.toArray⟩, .int .i64 r.n, .slice a r.l.length cap] 45) = W1 := ⟨_, rfl⟩
    have hs1 : W1.heap.size = W.heap.size + 1 := by rw [← hW1]; simp
    have hk1 : ∀ S, Keeps S W W1 := fun S => by rw [← hW1]; exact (Keeps.refl S W).alloc _
    have hbox : W1.heap[W.heap.size]? = some (.cells #[.int .i64 r.k, .string ⟨r.s.toArray⟩, .int .i64 r.n, .slice a r.l.length cap] 45 (0, 0)) := by rw [← hW1]; exact World.alloc_heap_new W _
    obtain ⟨fn, tmps, assign, body, hy, hR⟩ := hY O pre x W1 (fun k h => ⟨(hO k h).1, by have := (hO k h).2; omega⟩) (by omega) (hJ _ _ _ _ hj (hk1 _)) (by omega)
    have HX := Lib.hid hx
    have he : encV x = #[.agg #[.int .i64 r.k, .string ⟨r.s.toArray⟩, .int .i64 r.n, .slice a r.l.length cap], .int .i64 lev] := by
      obtain ⟨h1, h2, h3, h4⟩ := hx
      unfold encV rv
      rw [h1, h2, h3, h4]
    rw [he] at hy
    clear he hx hN hlev hsl hcas
    have HL := Lib.hid hl
    have HO := Lib.hid hO
    have hlenB : r.l.length ≤ 281474976710656 := by unfold Fit at hfit; omega
    clear hl hO hfit
    refine callsIn_of_wp Tryz.func81 rfl trivial ?_ rfl
    simp only [Tryz.ntmps81, List.size_toArray, List.length_cons, List.length_nil, Nat.reduceAdd, Nat.reduceSub, Array.replicate_succ, Array.replicate_zero, List.push_toArray, List.append_toArray, List.nil_append, List.cons_append]
    unfold rv
    have step : ∀ (e : Ending) (W2 : World), (KeepsN Dt (OwnS (fun _ => False) B0 O) W1 W2 ∧ ∃ O', GrowsN B0 O O' W1 W2 ∧ ((e = .returned (.bool true) ∧ J O' (pre ++ [x]) W2) ∨ (e = .returned (.bool false) ∧ Jx O' (pre ++ [x]) W2))) →
        Hid (KeepsN Dt (OwnS (fun _ => False) B0 O) W W2 ∧ W2.heap[W.heap.size]? = some (.cells #[.int .i64 r.k, .string ⟨r.s.toArray⟩, .int .i64 r.n, .slice a r.l.length cap] 45 (0, 0)) ∧ ∃ O', (∀ k, O' k → k < W2.heap.size ∧ (O k ∨ W1.heap.size ≤ k ∨ (B0 ≤ k ∧ ¬ NB W1 k))) ∧ ((e = .returned (.bool true) ∧ J O' (pre ++ [x]) W2) ∨ (e = .returned (.bool false) ∧ Jx O' (pre ++ [x]) W2))) := fun e W2 h => by
      obtain ⟨h1, O', h2, h3⟩ := h
      exact Lib.hid ⟨(KeepsN.of_keeps (hk1 _)).trans h1, h1.heap hbox (.inr ⟨.inr ⟨hB, fun h => by have := (HO.out _ h).2; omega⟩, fun _ _ h => by cases h⟩), O', h2, h3⟩
    have HSt := Lib.hid step
    clear step
    subst hW1
    gi_wp2
    refine ⟨rfl, hR.mono ?_⟩
    rintro e W2 h
    have h' := (HSt.out e W2 h).out
    clear h HSt hR hy hk1 hbox hs1
    obtain ⟨hk2, hbx2, O2, hO2, (⟨rfl, hJ2⟩ | ⟨rfl, hJx2⟩)⟩ := h'
    · obtain ⟨b0, b1, b2, b3⟩ := cells_four hbx2
      have hs1 : (W.alloc (.cells #[.int .i64 r.k, .string ⟨r.s.toArray⟩, .int .i64 r.n, .slice a r.l.length cap] 45)).heap.size = W.heap.size + 1 := by simp
      have hnb1 : ∀ k, B0 ≤ k → ¬ NB (W.alloc (.cells #[.int .i64 r.k, .string ⟨r.s.toArray⟩, .int .i64 r.n, .slice a r.l.length cap] 45)) k → W.heap.size ≤ k ∨ (B0 ≤ k ∧ ¬ NB W k) := fun k hb h => by
        by_cases hlt : k < W.heap.size
        · exact .inr ⟨hb, fun hn => h fun c fz hc => hn c fz (by rwa [Below.heap_alloc _ _ _ hlt] at hc)⟩
        · exact .inl (by omega)
      have hO2 : ∀ k, O2 k → k < W2.heap.size ∧ (O k ∨ W.heap.size ≤ k ∨ (B0 ≤ k ∧ ¬ NB W k)) := fun k hk => ⟨(hO2 k hk).1, by
        rcases (hO2 k hk).2 with h | h | h
        · exact .inl h
        · exact .inr (.inl (by rw [hs1] at h; omega))
        · exact .inr (hnb1 k h.1 h.2)⟩
      clear hnb1
      have H2 := Lib.hid (And.intro hk2 (And.intro hO2 hbx2))
      clear hk2 hO2 hbx2 hs1
      gi_wp2
      gi_loopw [6, 17] (fun q i wr => ∃ (k : Nat) (O' : Nat → Prop) (xs : List (PV Q)), k ≤ r.l.length ∧ q = .bool false ∧ i = .int .i64 k ∧ Hid (KeepsN Dt (OwnS (fun _ => False) B0 O) W wr) ∧ Hid (∀ k, O' k → k < wr.heap.size ∧ (O k ∨ W.heap.size ≤ k ∨ (B0 ≤ k ∧ ¬ NB W k))) ∧ Hid (xs.map PV.hl = (⟨r.k, r.s, r.n, r.l.length⟩, lev) :: Rp.headsL (lev + 1) (r.l.take k)) ∧ Hid (J O' (pre ++ xs) wr) ∧ Hid (W2.heap.size ≤ wr.heap.size))
        (fun _ i _ => r.l.length - (intOf i).toNat)
      case atStart =>
        refine ⟨0, O2, [x], Nat.zero_le _, rfl, rfl, Lib.hid H2.out.1, Lib.hid H2.out.2.1, Lib.hid ?_, Lib.hid hJ2, Lib.hid (Nat.le_refl _)⟩
        obtain ⟨h1, h2, _⟩ := HX.out
        simp [Rp.headsL, PV.hl, h1, h2]
      case round =>
        obtain ⟨k, O', xs, hk, rfl, rfl, HK, HO', HXS, HJ', HS'⟩ := hrel
        by_cases hlt : k < r.l.length
        · have HLk := Lib.hid (Rp.headsL_take (lev + 1) hlt)
          obtain ⟨q1, q2⟩ := HSL.out k hlt
          obtain ⟨b, off, rfl, hDb, hbW, hRL⟩ : ∃ b off, a = some ⟨b, off, none⟩ ∧ Dt b ∧ b < W.heap.size ∧ RepL Dt W r.l b off := by
            rcases HL.out with h | h
            · rw [h] at hlt; simp at hlt
            · exact h
          have hRL' := RepL.keeps HK.out.dt (fun _ h _ => h) r.l b off hDb hbW hRL
          obtain ⟨v0, v1, v2, v3, c0, c1, c2, c3, hr⟩ := hRL'.get k hlt
          clear hRL hRL'
          obtain ⟨a', cap', hv, hf', -⟩ := hr.parts
          have hxl : xs.length = 1 + (Rp.headsL 0 (r.l.take k)).length := by
            have := congrArg List.length HXS.out
            rw [List.length_map, List.length_cons, Rp.headsL_len (lev + 1) 0] at this
            omega
          have hsz' : B0 ≤ wr.heap.size := by have := HK.out.size; omega
          have hic := ih r.l[k] (lev + 1) (.agg #[v0, v1, v2, v3]) (wr.alloc (.cells #[v0, v1, v2, v3] 45)) O' (pre ++ xs) q1 (by have := HN.out.2; omega) (fun p hp => HCA.out p (by rw [HH.out]; exact List.mem_cons_of_mem _ (headsL_sub (lev + 1) hlt p hp))) (hr.later ((Below.refl _ wr).alloc (Nat.le_refl _) _)) (by simp; omega)
            (fun j hj => ⟨by rcases (HO'.out j hj).2 with h | h | h; exact (HO.out j h).1; omega; exact h.1, by have := (HO'.out j hj).1; simp; omega⟩) (hJ _ _ _ _ HJ'.out ((Keeps.refl _ wr).alloc _)) (by rw [List.length_append]; have := HN.out.1; omega)
          unfold rv at hv
          injection hv with hv
          simp only [Array.mk.injEq, List.cons.injEq, and_true] at hv
          obtain ⟨rfl, rfl, rfl, rfl⟩ := hv
          clear hr hf' q1 q2 hxl
          have hw : IntKind.i64.wrap ((lev : Int) + 1) = (lev : Int) + 1 := IntWalk.i64_in _ (by have := HN.out.2; omega)
          rw [Int.natCast_add, Int.natCast_one] at hic
          generalize Rp.heads (lev + 1) r.l[k] = hs at hic HLk
          generalize r.l[k] = ch at hic c0 c1 c2 c3
          generalize ch.l.length = chl at hic c0 c1 c2 c3
          have hnext : ∀ (e : Ending) (W3 : World), VisOut B0 Dt J Jx O' (pre ++ xs) hs (wr.alloc (.cells #[.int .i64 ch.k, .string ⟨ch.s.toArray⟩, .int .i64 ch.n, .slice a' chl cap'] 45)) e W3 →
              Hid (KeepsN Dt (OwnS (fun _ => False) B0 O) W W3 ∧ W2.heap.size ≤ W3.heap.size ∧ ∃ ok : Bool, e = .returned (.bool ok) ∧ ∃ O3, (∀ k, O3 k → k < W3.heap.size ∧ (O k ∨ W.heap.size ≤ k ∨ (B0 ≤ k ∧ ¬ NB W k))) ∧ ((ok = true ∧ ∃ ys, ys.map PV.hl = (⟨r.k, r.s, r.n, r.l.length⟩, lev) :: Rp.headsL (lev + 1) (r.l.take (k + 1)) ∧ J O3 (pre ++ ys) W3) ∨ (ok = false ∧ ∃ pre' : List (PV Q), pre'.map PV.hl <+: pre.map PV.hl ++ Rp.heads lev r ∧ Jx O3 pre' W3))) := fun e W3 h => by
            obtain ⟨h1, O3, h2, h3⟩ := h
            have hs3 := h1.size
            simp only [World.size_alloc] at hs3 h2
            refine Lib.hid ⟨(HK.out.alloc _).trans' h1 fun j hj hn hs => hs.imp id fun hs => ⟨hs.1, fun ho => by rcases (HO'.out j ho).2 with h | h | h; exact hs.2 h; omega; exact h.2 hn⟩, by have := HS'.out; omega, ?_⟩
            have g2 : ∀ k, O3 k → k < W3.heap.size ∧ (O k ∨ W.heap.size ≤ k ∨ (B0 ≤ k ∧ ¬ NB W k)) := fun j hj => ⟨(h2 j hj).1, ?_⟩
            · rcases h3 with ⟨he, ys, hy, hj⟩ | ⟨he, pre', hpx, h3⟩
              · refine ⟨true, he, O3, g2, .inl ⟨rfl, xs ++ ys, ?_, by rw [← List.append_assoc]; exact hj⟩⟩
                rw [List.map_append, HXS.out, hy, HLk.out, List.cons_append]
              · refine ⟨false, he, O3, g2, .inr ⟨rfl, pre', hpx.trans ?_, h3⟩⟩
                rw [List.map_append, List.append_assoc, HXS.out, List.cons_append, ← HLk.out, HH.out]
                refine List.prefix_append_right_inj _ |>.2 (List.cons_prefix_cons.2 ⟨rfl, ?_⟩)
                have := Rp.headsL_append (lev + 1) (r.l.take (k + 1)) (r.l.drop (k + 1))
                rw [List.take_append_drop] at this
                exact ⟨_, this.symm⟩
            · by_cases hok : O j
              · exact .inl hok
              by_cases hjs : W.heap.size ≤ j
              · exact .inr (.inl hjs)
              rcases (h2 j hj).2 with h | h | ⟨hb, h⟩
              · exact (HO'.out j h).2
              · have := HK.out.size
                simp only [World.size_alloc] at h
                omega
              · refine .inr (.inr ⟨hb, fun hn => h ?_⟩)
                have e1 := HK.out.block j (by omega) (.inr ⟨.inr ⟨hb, hok⟩, hn⟩)
                have hjw : j < wr.heap.size := by have := HK.out.size; omega
                intro c fz hc
                rw [Below.heap_alloc _ _ _ hjw] at hc
                exact hn c fz (e1 ▸ hc)
          have HNX := Lib.hid hnext
          clear hnext HLk
          gi_wp2_with (refine ⟨trivial, rfl, ?_⟩; refine hic.mono ?_; rintro e W3 hvo; obtain ⟨h31, h32, ok, rfl, O3, h33, h3⟩ := (HNX.out e W3 hvo).out; have H1 := Lib.hid h31; have H3 := Lib.hid h33; have H4 := Lib.hid h3; clear h31 h33 h3 hvo HNX hic c0 c1 c2 c3)
          · rcases H4.out with ⟨rfl, _⟩ | ⟨rfl, pre', hpx, hjx⟩
            · exact absurd ‹(!true) = true› (by decide)
            · go_ret
              exact ⟨H1.out, O3, H3.out, .inr ⟨rfl, pre', hpx, hjx⟩⟩
          · rcases H4.out with ⟨rfl, ys, hy, hj⟩ | ⟨rfl, _⟩
            · go_roundw
              case rel => exact ⟨k + 1, O3, ys, by omega, rfl, by simp, H1, H3, Lib.hid hy, Lib.hid hj, Lib.hid h32⟩
              case measure => simp [intOf]; omega
            · exact absurd ‹(!false) = false› (by decide)
        · obtain rfl : k = r.l.length := by omega
          gi_wp2
          go_ret
          refine ⟨HK.out, O', HO'.out, .inl ⟨rfl, xs, ?_, HJ'.out⟩⟩
          rw [HXS.out, HH.out, List.take_length]
    · gi_wp2
      go_ret
      refine ⟨hk2, O2, fun k hk => ⟨(hO2 k hk).1, ?_⟩, .inr ⟨rfl, pre ++ [x], ?_, hJx2⟩⟩
      rotate_left
      · obtain ⟨h1, h2, _⟩ := HX.out
        exact ⟨Rp.headsL (lev + 1) r.l, by rw [HH.out]; simp [PV.hl, h1, h2]⟩
      rcases (hO2 k hk).2 with h | h | h
      · exact .inl h
      · exact .inr (.inl (by simp at h; omega))
      · by_cases hlt : k < W.heap.size
        · exact .inr (.inr ⟨h.1, fun hn => h.2 fun c fz hc => hn c fz (by rwa [Below.heap_alloc _ _ _ hlt] at hc)⟩)
        · exact .inr (.inl (by omega))

set_option maxHeartbeats 1000000 in
theorem parts_any (k : Int) (s : List UInt8) (n : Int) (a : Option Addr) (m cap : Nat) (w : World) :
    CallsIn Fence.wide 0 Tryz.prog 63 #[rv k s n a m cap] w fun e w' => e = .returned (.func (.func 80) #[] #[.pointer (some ⟨w.heap.size, 0, none⟩)]) ∧ w' = w.alloc (.cells #[.int .i64 k, .string ⟨s.toArray⟩, .int .i64 n, .slice a m cap] 45) := by
  refine callsIn_of_wp Tryz.func63 rfl trivial ?_ rfl
  simp only [Tryz.ntmps63, List.size_toArray, List.length_cons, List.length_nil, Nat.reduceAdd, Nat.reduceSub, Array.replicate_succ, Array.replicate_zero, List.push_toArray, List.append_toArray, List.nil_append, List.cons_append]
  unfold rv
  gi_wp2
  go_ret
  exact ⟨rfl, rfl⟩

set_option maxRecDepth 100000 in
set_option maxHeartbeats 2000000 in
theorem parts_seq (st : Bool) (Bs : Nat) (r : Rp.R) (a : Option Addr) (cap : Nat) (w : World) (hcas : AllQ Q (Rp.heads 0 r)) (hsz : (Rp.heads 0 r).length ≤ 1000000) (hBs : Bs < w.heap.size)
    (hbox : w.heap[Bs]? = some (.cells #[.int .i64 r.k, .string ⟨r.s.toArray⟩, .int .i64 r.n, .slice a r.l.length cap] 45 (0, 0))) (Dt : Nat → Prop) (hrep : Rep Dt w r (rv r.k r.s r.n a r.l.length cap)) :
    SeqN st Tryz.prog 80 #[.pointer (some ⟨Bs, 0, none⟩)] (encV (Q := Q)) Dt (fun _ => False) (fun xs => xs.map PV.hl = Rp.heads 0 r) (fun pre => pre.map PV.hl <+: Rp.heads 0 r) (Rp.heads 0 r).length w := by
  intro l J Jx W hW hJ _ _ hY h0
  have hbox' := (hW.block Bs hBs).trans hbox
  obtain ⟨b0, b1, b2, b3⟩ := cells_four hbox'
  have hv := visit_any l W.heap.size Dt J Jx (Rp.heads 0 r).length hJ hY _ r 0 _ W (fun _ => False) [] (Nat.le_refl _) (by omega) hcas (hrep.later hW) (Nat.le_refl _) (fun _ h => h.elim) h0 (by simp)
  unfold rv at hv
  have HV := Lib.hid hv
  clear hv hY hbox hbox' hrep
  refine callsIn_of_wp Tryz.func80 rfl trivial ?_ rfl
  simp only [Tryz.ntmps80, List.size_toArray, List.length_cons, List.length_nil, Nat.reduceAdd, Nat.reduceSub, Array.replicate_succ, Array.replicate_zero, List.push_toArray, List.append_toArray, List.nil_append, List.cons_append]
  gi_wp2_with (refine ⟨trivial, rfl, ?_⟩; refine HV.out.mono ?_; rintro e W3 hvo; obtain ⟨ok, rfl⟩ := hvo.ret; have H3 := Lib.hid hvo; clear hvo)
  · obtain ⟨h1, O', h2, h3⟩ := H3.out
    go_end0
    refine ⟨⟨_, rfl⟩, h1.size, O', fun k hk => ⟨?_, (h2 k hk).1⟩, ?_⟩
    · rcases (h2 k hk).2 with h | h | h
      · exact h.elim
      · exact h
      · exact h.1
    rcases h3 with ⟨_, xs, hx, hj⟩ | ⟨_, pre', hp, hj⟩
    · exact .inl ⟨xs, hx, by simpa using hj⟩
    · exact .inr ⟨pre', by simpa using hp, hj⟩
end Go.Proofs.YtbkhnnjjpelfcaaGreatDoor
namespace Go.Proofs.YtbkhnnjjpelfcaaGreatDoor
open Go.RowKit Go.Shelf
attribute [local go_sem] Oper.semAt_some
variable {Q : Rp.H → Prop}

/-- a loop's variable that is a part, boxed, in a block of its own. -/
def VVar (b : Nat) (mk : Nat → (PV Q) → Act) (O : Nat → Prop) (x : (PV Q)) (a' : Act) (A : World) : Prop :=
  ∃ Bx, b ≤ Bx ∧ ¬ O Bx ∧ A.heap[Bx]? = some (.cells #[.int .i64 x.h.k, .string ⟨x.h.s.toArray⟩, .int .i64 x.h.n, .slice x.a x.h.m x.cap] 45 (0, 0)) ∧ a' = mk Bx x

theorem VVar.later {b n : Nat} {mk : Nat → (PV Q) → Act} {O : Nat → Prop} {x : (PV Q)} {a' : Act} {A C : World} (h : VVar b mk O x a' A) (hn : n < b) (hk : Keeps (fun k => k ≠ n) A C) : VVar b mk O x a' C := by
  obtain ⟨Bx, h1, h2, h3, h4⟩ := h
  exact ⟨Bx, h1, h2, hk.heap h3 (by omega), h4⟩

theorem may_true {r : Rp.R} {xs : List (PV Q)} (h : xs.map PV.hl = Rp.heads 0 r) (ha : ∀ x ∈ xs, Rp.okB x.hl = true) : Rp.mayB r = true := by
  unfold Rp.mayB
  rw [← h, List.all_eq_true]
  intro p hp
  obtain ⟨x, hx, rfl⟩ := List.mem_map.1 hp
  exact ha x hx

theorem may_false {r : Rp.R} {xs : List (PV Q)} (h : xs.map PV.hl <+: Rp.heads 0 r) {x : (PV Q)} (hx : x ∈ xs) (ha : Rp.okB x.hl = false) : Rp.mayB r = false := by
  unfold Rp.mayB
  rw [List.all_eq_false]
  exact ⟨x.hl, h.subset (List.mem_map.2 ⟨x, hx, rfl⟩), by simp [ha]⟩

set_option maxRecDepth 100000 in
set_option maxHeartbeats 4000000 in
theorem rpMay_any (r : Rp.R) (a : Option Addr) (cap : Nat) (w : World) (hsz : (Rp.heads 0 r).length ≤ 1000000) (hcas : AllQ CAQ (Rp.heads 0 r)) (hrep : Rep (fun k => k < w.heap.size) w r (rv r.k r.s r.n a r.l.length cap)) :
    CallsIn Fence.wide 0 Tryz.prog 62 #[rv r.k r.s r.n a r.l.length cap] w fun e W' => e = .returned (.bool (Rp.mayB r)) ∧ Below w.heap.size w W' := by
  obtain ⟨w1, hw1⟩ : ∃ w1, (w.alloc (.cells #[.int .i64 r.k, .string ⟨r.s.toArray⟩, .int .i64 r.n, .slice a r.l.length cap] 45)).alloc (.cells #[.bool false] 4) = w1 := ⟨_, rfl⟩
  have hp := parts_any r.k r.s r.n a r.l.length cap w1
  have hs1 : w1.heap.size = w.heap.size + 2 := by rw [← hw1]; simp
  have hB1 : Below w.heap.size w w1 := by rw [← hw1]; exact ((Below.refl _ w).alloc (Nat.le_refl _) _).alloc (by simp) _
  have hbr : Boxed w1 (w.heap.size + 1) 4 (.bool false) := by
    rw [← hw1]
    have := Boxed.new (w.alloc (.cells #[.int .i64 r.k, .string ⟨r.s.toArray⟩, .int .i64 r.n, .slice a r.l.length cap] 45)) 4 (.bool false)
    rwa [World.size_alloc] at this
  rw [hs1] at hp
  have HREP := Lib.hid hrep
  have HB1 := Lib.hid hB1
  have HS1 := Lib.hid hs1
  have HBR := Lib.hid hbr
  have HCAS := Lib.hid hcas
  clear hrep hB1 hs1 hbr hcas
  subst hw1
  unfold rv at hp ⊢
  refine callsIn_of_wp_marks Tryz.func62 rfl trivial ?_ rfl
  simp only [Tryz.ntmps62, List.size_toArray, List.length_cons, List.length_nil, Nat.reduceAdd, Nat.reduceSub, Array.replicate_succ, Array.replicate_zero, List.push_toArray, List.append_toArray, List.nil_append, List.cons_append]
  gi_wp2_with (refine ⟨trivial, rfl, ?_⟩; refine hp.mono ?_; rintro e w2 ⟨rfl, hw2⟩; have HW2 := Lib.hid hw2; clear hw2)
  have hw2 := HW2.out
  clear HW2
  have hs1 := HS1.out
  have hB2 : Below w.heap.size w w2 := by rw [hw2]; exact HB1.out.alloc (by omega) _
  have hbr : Boxed w2 (w.heap.size + 1) 4 (.bool false) := by rw [hw2]; exact HBR.out.alloc _
  have hbox : w2.heap[w.heap.size + 2]? = some (.cells #[.int .i64 r.k, .string ⟨r.s.toArray⟩, .int .i64 r.n, .slice a r.l.length cap] 45 (0, 0)) := by rw [hw2, ← hs1]; exact World.alloc_heap_new _ _
  have hs2 : w2.heap.size = w.heap.size + 3 := by rw [hw2, World.size_alloc, hs1]
  clear hw2 HB1 HS1 HBR hs1
  have hseq := parts_seq true (w.heap.size + 2) r a cap w2 HCAS.out hsz (by omega) hbox (fun k => k < w.heap.size) (Rep.keeps (Keeps.of_below hB2 fun _ h _ => h) (fun _ h _ => h) r _ HREP.out)
  clear hbox
  refine wpIn_rangeN (gf := 80) (lb := #[.pointer (some ⟨w.heap.size + 2, 0, none⟩)]) rfl (enters_of Tryz.func80 (by kernel_rfl) rfl)
    hseq (Below.refl _ _) (fun k h => by omega) (fun k h => h.elim) (fun _ => rfl)
    (fun _ pre W => Boxed W (w.heap.size + 1) 4 (.bool false) ∧ (∀ x ∈ pre, Rp.okB x.hl = true) ∧ Below w.heap.size w W)
    (fun c _ pre W => c = .ret ∧ Boxed W (w.heap.size + 1) 4 (.bool false) ∧ (∃ x ∈ pre, Rp.okB x.hl = false) ∧ Below w.heap.size w W)
    ?hI ?hIx (fun h => by cases h) ⟨hbr, fun x h => absurd h (by simp), hB2⟩
    (VVar (Q := CAQ) (w2.heap.size + 2) (fun Bx x => { tmps := #[.agg #[.int .i64 r.k, .string ⟨r.s.toArray⟩, .int .i64 r.n, .slice a r.l.length cap], .pointer (some ⟨w.heap.size, 0, none⟩), .pointer (some ⟨w.heap.size + 1, 0, none⟩), .pointer (some ⟨Bx, 0, none⟩), .int .i64 x.lev, .agg #[.int .i64 r.k, .string ⟨r.s.toArray⟩, .int .i64 r.n, .slice a r.l.length cap], .func (.func 80) #[] #[.pointer (some ⟨w.heap.size + 2, 0, none⟩)], rv x.h.k x.h.s x.h.n x.a x.h.m x.cap, .int .i64 x.lev, undef, undef, undef, undef, undef, undef, undef, undef, undef, undef, undef, undef], defers := [] }))
    (fun O x a' A C h hk => h.later (by omega) hk) ?assign ?body ?done ?stop
  case hI =>
    rintro O s A C ⟨h1, h2, h3⟩ hk
    have own : ∀ k, k < w2.heap.size → IterS (fun _ => False) w2.heap.size O k := fun k h => ⟨id, .inl h⟩
    exact ⟨hk.heap h1 (own _ (by omega)), h2, h3.trans (hk.below h3.size fun k hk' => own k (by omega))⟩
  case hIx =>
    rintro c O s A C ⟨h0, h1, h2, h3⟩ hk
    have own : ∀ k, k < w2.heap.size → IterS (fun _ => False) w2.heap.size O k := fun k h => ⟨id, .inl h⟩
    exact ⟨h0, hk.heap h1 (own _ (by omega)), h2, h3.trans (hk.below h3.size fun k hk' => own k (by omega))⟩
  case assign =>
    intro O pre x A K hO hA ⟨hb, hall, hB⟩ hK
    have HK := Lib.hid hK
    have HA := Lib.hid hall
    clear hK hall
    unfold encV rv
    gi_wp2
    exact HK.out _ _ (KeepsN.refl _ _ _ |>.alloc _) ⟨hb.alloc _, HA.out, hB.alloc hB.size _⟩ ⟨A.heap.size, by omega, fun h => by have := (hO _ h).2; omega, World.alloc_heap_new A _, rfl⟩
  case body =>
    rintro O pre x a' A hO hA ⟨r', hr⟩ ⟨hb, hall, hB⟩ ⟨Bx, hBx, hnO, hcx, rfl⟩ hlen
    have b1 := hb.cell
    have b2 := hb.frozen
    have HA := Lib.hid hall
    have HO := Lib.hid hO
    obtain ⟨x0, x1, x2, x3⟩ := cells_four hcx
    have hfc := in_round (l := w2.heap.size + 1) (rpFits_any x.h.k x.h.s x.h.n x.a x.h.m x.cap A x.fit x.q)
    unfold rv at hfc ⊢
    have HOK : Hid (Rp.okB x.hl = (Rp.fitsB ⟨x.h.k, x.h.s, x.h.n, x.h.m⟩ && !((x.h.k == 6) && decide ((8 : Int) ≤ (x.lev : Int))))) := Lib.hid (by
      have e8 : decide (8 ≤ x.lev) = decide ((8 : Int) ≤ (x.lev : Int)) := decide_eq_decide.2 (by omega)
      unfold Rp.okB PV.hl
      rw [e8]
      rfl)
    have HLow := Lib.hid x.low
    have hxl : (x.lev : Int) ≤ 1000000 := by have := x.low; omega
    have HN : ∀ W2, Below A.heap.size A W2 → Hid (W2.cell? ⟨Bx, 0, none⟩ = some (.int .i64 x.h.k) ∧ W2.cell? ⟨w.heap.size + 1, 0, none⟩ = some (.bool false) ∧ W2.frozen? ⟨w.heap.size + 1, 0, none⟩ = false ∧
        (KeepsN (fun k => k < w.heap.size) (OwnS (fun _ => False) w2.heap.size O) A W2 ∧ GrowsN (w2.heap.size + 2) O O A W2 ∧ Boxed W2 (w.heap.size + 1) 4 (.bool false) ∧ Below w.heap.size w W2) ∧
        (KeepsN (fun k => k < w.heap.size) (OwnS (fun _ => False) w2.heap.size O) A (W2.setCell ⟨w.heap.size + 1, 0, none⟩ (.bool false)) ∧ GrowsN (w2.heap.size + 2) O O A (W2.setCell ⟨w.heap.size + 1, 0, none⟩ (.bool false)) ∧ Boxed (W2.setCell ⟨w.heap.size + 1, 0, none⟩ (.bool false)) (w.heap.size + 1) 4 (.bool false) ∧ Below w.heap.size w (W2.setCell ⟨w.heap.size + 1, 0, none⟩ (.bool false)))) := fun W2 hb2 => by
      have hk2 : KeepsN (fun k => k < w.heap.size) (OwnS (fun _ => False) w2.heap.size O) A W2 := KeepsN.of_keeps (Keeps.of_below hb2 fun k h _ => h)
      have hbx2 : Boxed W2 (w.heap.size + 1) 4 (.bool false) := (hb2.block _ (by omega)).trans hb
      have hbw2 : Below w.heap.size w W2 := hB.trans (hb2.mono (by omega))
      have hsz2 := hb2.size
      have hbxl : Bx < A.heap.size := (Array.getElem?_eq_some_iff.1 hcx).1
      refine Lib.hid ⟨(hb2.cell (p := ⟨Bx, 0, none⟩) hbxl).trans x0, hbx2.cell, hbx2.frozen, ⟨hk2, GrowsN.same fun k hk => by have := (HO.out k hk).2; omega, hbx2, hbw2⟩, hk2.setCell (.inr ?_) _, GrowsN.same fun k hk => by have := (HO.out k hk).2; simp; omega, hbx2.set _, hbw2.setCell (p := ⟨w.heap.size + 1, 0, none⟩) (Nat.le_succ _) _⟩
      rintro (h | h | h)
      · have h : w.heap.size + 1 < w.heap.size := h
        omega
      · exact h
      · have := h.1
        simp at this
        omega
    have HNN := Lib.hid HN
    clear hall hr hcx HN hb hB hO
    generalize Rp.fitsB ⟨x.h.k, x.h.s, x.h.n, x.h.m⟩ = fb at hfc HOK
    obtain ⟨q6, hq6⟩ : ∃ q, (x.h.k == 6) = q := ⟨_, rfl⟩
    obtain ⟨q8, hq8⟩ : ∃ q, decide ((8 : Int) ≤ (x.lev : Int)) = q := ⟨_, rfl⟩
    have HO2 : Hid (Rp.okB x.hl = (fb && !(q6 && q8))) := Lib.hid (by rw [HOK.out, hq6, hq8])
    have HGO : Hid (Rp.okB x.hl = true → ∀ y ∈ pre ++ [x], Rp.okB y.hl = true) := Lib.hid fun h y hy => by
      rcases List.mem_append.1 hy with hy | hy
      · exact HA.out y hy
      · rw [List.mem_singleton.1 hy]; exact h
    have HNO : Hid (Rp.okB x.hl = false → ∃ y ∈ pre ++ [x], Rp.okB y.hl = false) := Lib.hid fun h => ⟨x, by simp, h⟩
    clear HOK HA
    cases fb <;> cases q6 <;> cases q8 <;>
      (gi_wp2_with (refine ⟨trivial, rfl, ?_⟩; refine hfc.mono ?_; rintro e W2 ⟨rfl, hb2⟩; have HW := HNN.out W2 hb2; obtain ⟨y0, y1, y2, -⟩ := HW.out; clear hb2 hfc HNN)
       first
       | exact ⟨HW.out.2.2.2.1.1, O, HW.out.2.2.2.1.2.1, HW.out.2.2.2.1.2.2.1, HGO.out HO2.out, HW.out.2.2.2.1.2.2.2⟩
       | exact ⟨HW.out.2.2.2.2.1, O, HW.out.2.2.2.2.2.1, rfl, HW.out.2.2.2.2.2.2.1, HNO.out HO2.out, HW.out.2.2.2.2.2.2.2⟩)
  case done =>
    rintro O D xs A hD hDs hO - hSx ⟨hb, hall, hB⟩ hDd
    have HS := Lib.hid (may_true hSx hall)
    have b1 := hb.cell
    have b2 := hb.frozen
    clear hSx hall
    gi_wp2
    have hk : Keeps (fun k => k ≠ D) (A.setCell ⟨w.heap.size + 1, 0, none⟩ (.bool true)) ((A.setCell ⟨w.heap.size + 1, 0, none⟩ (.bool true)).putObj D (.deferred none)) := (Keeps.refl _ _).putObj (fun h => h rfl) _
    have hbt := hk.heap (hb.set (.bool true)) (by omega)
    have hDd' : (A.setCell ⟨w.heap.size + 1, 0, none⟩ (.bool true)).heap[D]? = some (.deferred (some [])) := (Below.heap_setCell _ _ _ _ (by simp; omega)).trans hDd
    refine ⟨by simp, .inl ⟨_, _, rfl, run_takeDeferred hDd', ?_⟩⟩
    refine ⟨_, results_cell (t := 2) (T := 4) (p := ⟨w.heap.size + 1, 0, none⟩) rfl rfl (loadVar4 _ _ _ (Boxed.cell hbt)), by rw [HS.out], ?_⟩
    exact (hB.setCell (p := ⟨w.heap.size + 1, 0, none⟩) (Nat.le_succ _) _).trans (hk.below (n := w.heap.size) (by simp; exact hB.size) fun k hk' => by omega)
  case stop =>
    rintro O D c pre A hD hDs hO - hSp ⟨rfl, hb, ⟨x, hx, hox⟩, hB⟩ hDd
    have HS := Lib.hid (may_false hSp hx hox)
    have b1 := hb.cell
    clear hSp hox
    gi_wp2
    have hk : Keeps (fun k => k ≠ D) A (A.putObj D (.deferred none)) := (Keeps.refl _ _).putObj (fun h => h rfl) _
    have hbt := hk.heap hb (by omega)
    refine ⟨by simp, .inl ⟨_, _, rfl, run_takeDeferred hDd, ?_⟩⟩
    refine ⟨_, results_cell (t := 2) (T := 4) (p := ⟨w.heap.size + 1, 0, none⟩) rfl rfl (loadVar4 _ _ _ (Boxed.cell hbt)), by rw [HS.out], ?_⟩
    exact hB.trans (hk.below hB.size fun k hk' => by omega)
end Go.Proofs.YtbkhnnjjpelfcaaGreatDoor
namespace Go.Proofs.YtbkhnnjjpelfcaaGreatDoor
open Go.RowKit Go.Shelf
attribute [local go_sem] Oper.semAt_some

theorem Step.call {base : Nat} {bs cs : List UInt8} {v v' : Value} {W A C : World} (h : Step base bs v W A) (hb : Buf base cs v' C) (hl : Below base A C) (ho : Lib.OthersKept 5 none A C) : Step base cs v' W C :=
  ⟨hb, h.below.trans hl, h.others.trans ho⟩

set_option maxRecDepth 100000 in
set_option maxHeartbeats 4000000 in
theorem own1 (base : Nat) (bs : List UInt8) (v : Value) (s : List UInt8) (n : Int) (a : Option Addr) (m cap : Nat) (W : World) (h : Buf base bs v W) (hb : base ≤ W.heap.size) (h8 : 8 ≤ base) (hl : bs.length ≤ 2000000000000) (hs : s.length ≤ 1048576) (_hn0 : -9223372036854775808 ≤ n) (_hn1 : n ≤ 9223372036854775807) (_hm : m ≤ 281474976710656) (henv : Env W) :
    Calls Tryz.prog 64 #[v, rv 1 s n a m cap] W (BOut base (bs ++ Rp.own ⟨1, s, n, m⟩) W) := by
  obtain ⟨i0, hi, hz0, hz1, hz2⟩ := info_parts info5
  have hsz : (⟨s.toArray⟩ : ByteArray).size = s.length := by show s.toArray.size = _; simp
  unfold rv
  obtain ⟨W1, hW1⟩ : ∃ W1, W.alloc (.cells #[.int .i64 1, .string ⟨s.toArray⟩, .int .i64 n, .slice a m cap] 45) = W1 := ⟨_, rfl⟩
  have hbox : W1.heap[W.heap.size]? = some (.cells #[.int .i64 1, .string ⟨s.toArray⟩, .int .i64 n, .slice a m cap] 45 (0, 0)) := by rw [← hW1]; exact World.alloc_heap_new W _
  have hb1 : base ≤ W1.heap.size := by rw [← hW1, World.size_alloc]; omega
  have HST1 : Hid (Step base bs v W1 W1) := Lib.hid (Step.start (by rw [← hW1]; exact h.alloc _))
  have HB1 : Hid (Below base W W1 ∧ Lib.OthersKept 5 none W W1) := Lib.hid (by rw [← hW1]; exact ⟨(Below.refl _ _).alloc hb _, (Lib.OthersKept.refl _ _ _).alloc _⟩)
  have HE : Hid (Env W1) := Lib.hid (henv.below HB1.out.1 h8)
  have HSZ := Lib.hid hsz
  have HW1 := Lib.hid hW1
  obtain ⟨c0, c1, c2, c3⟩ := cells_four hbox
  clear hW1 h henv
  go_enter Tryz.func64, Tryz.ntmps64
  go_upto_region 3 with (fail)
  rw [HW1.out]
  clear HW1
  go_region_held3 (fun w' => w'.cell? ⟨W.heap.size, 1, none⟩ = some (.string ⟨s.toArray⟩))
    (first
      | go_keep
      | exact (cells_four (HS3.out.cell hbox (by decide))).2.1
      | exact (cells_four (HS2.out.cell hbox (by decide))).2.1)
    (first
      | (refine step_append_str (by rfl) _ _ _ _ (by rfl) base 5 i0 Tryz.underlying36 Tryz.underlying9 hi hz0 hz1 hz2 _ _ _ (by rfl) HS2.out.buf ⟨s.toArray⟩ ?h1 ?h2 ?h3 ?h4 ?h5
         case h1 => rfl
         case h2 => (rw [HSZ.out, List.length_append, List.length_singleton]; unfold maxLen; omega)
         case h3 => (rw [HSZ.out, List.length_append, List.length_singleton]; omega)
         case h4 => (have := HS2.out.below.size; omega)
         intro v3 w3 hown hgrow
         have HS3 : Hid (Step base (bs ++ [43] ++ s) v3 W1 w3) := Lib.hid (HS2.out.grown hb1 hown hgrow HSZ.out (by simp [Lib.byteCells, Lib.strCells]))
         clear hown hgrow)
      | (refine step_append_lies _ (by rfl) _ _ _ (by rfl) base 5 i0 _ 1 1 Tryz.underlying36 hi hz0 hz1 hz2 rfl (by omega) v bs.length (Lib.byteCells bs) (by rfl) ((HST1.out.buf.alloc _).drew) ⟨W1.heap.size, 0, none⟩ 1 1 [.int .u8 43] (by rfl) (by rfl) (World.news_of_block (cs := #[.int .u8 43]) (t := 5) (fr := (0, 0)) (World.alloc_heap_new W1 _)) (by simp [Value.oneCell']) (by omega) (by unfold maxLen; omega) (by omega) (by simp; omega) (W1.heap.size + 1) (by simp) ?_; intro gg capg w2 hown hgrow _ _; have HS2 : Hid (Step base (bs ++ [43]) (.slice (some ⟨gg, 0, none⟩) (bs.length + 1) capg) W1 w2) := Lib.hid (((HST1.out.alloc hb1 _).drew).grown hb1 hown hgrow rfl rfl); clear hown hgrow))
  have HLEN : Hid ((bs ++ [43] ++ s).length ≤ 2100000000000) := Lib.hid (by simp only [List.length_append, List.length_singleton]; omega)
  go_wp2_with (at_builtin; refine wpList_append_str rfl _ _ _ _ rfl base 5 i0 Tryz.underlying36 Tryz.underlying9 hi hz0 hz1 hz2 _ _ _ rfl HS3.out.buf ⟨#[13, 10]⟩ rfl ?c3 ?c4 ?c5 ?_)
  case c3 => have := HLEN.out; rw [show (⟨#[13, 10]⟩ : ByteArray).size = 2 from rfl]; simp only [List.length_append, List.length_cons, List.length_nil] at this ⊢; unfold maxLen; omega
  case c4 => have := HLEN.out; rw [show (⟨#[13, 10]⟩ : ByteArray).size = 2 from rfl]; simp only [List.length_append, List.length_cons, List.length_nil] at this ⊢; omega
  case c5 => have := HS3.out.below.size; omega
  intro v4 w4 hown hgrow
  have HS4 := Lib.hid (HS3.out.grown (cs := [13, 10]) (k := 2) (ys := Lib.strCells ⟨#[13, 10]⟩) hb1 (by simpa using hown) hgrow rfl rfl)
  clear hown hgrow
  go_wp2
  go_ret
  refine ⟨v4, rfl, ?_, HB1.out.1.trans HS4.out.below, HB1.out.2.trans HS4.out.others⟩
  have := HS4.out.buf
  simpa [Rp.own, Rp.crlf] using this

set_option maxRecDepth 100000 in
set_option maxHeartbeats 4000000 in
theorem own2 (base : Nat) (bs : List UInt8) (v : Value) (s : List UInt8) (n : Int) (a : Option Addr) (m cap : Nat) (W : World) (h : Buf base bs v W) (hb : base ≤ W.heap.size) (h8 : 8 ≤ base) (hl : bs.length ≤ 2000000000000) (hs : s.length ≤ 1048576) (_hn0 : -9223372036854775808 ≤ n) (_hn1 : n ≤ 9223372036854775807) (_hm : m ≤ 281474976710656) (henv : Env W) :
    Calls Tryz.prog 64 #[v, rv 2 s n a m cap] W (BOut base (bs ++ Rp.own ⟨2, s, n, m⟩) W) := by
  obtain ⟨i0, hi, hz0, hz1, hz2⟩ := info_parts info5
  have hsz : (⟨s.toArray⟩ : ByteArray).size = s.length := by show s.toArray.size = _; simp
  unfold rv
  obtain ⟨W1, hW1⟩ : ∃ W1, W.alloc (.cells #[.int .i64 2, .string ⟨s.toArray⟩, .int .i64 n, .slice a m cap] 45) = W1 := ⟨_, rfl⟩
  have hbox : W1.heap[W.heap.size]? = some (.cells #[.int .i64 2, .string ⟨s.toArray⟩, .int .i64 n, .slice a m cap] 45 (0, 0)) := by rw [← hW1]; exact World.alloc_heap_new W _
  have hb1 : base ≤ W1.heap.size := by rw [← hW1, World.size_alloc]; omega
  have HST1 : Hid (Step base bs v W1 W1) := Lib.hid (Step.start (by rw [← hW1]; exact h.alloc _))
  have HB1 : Hid (Below base W W1 ∧ Lib.OthersKept 5 none W W1) := Lib.hid (by rw [← hW1]; exact ⟨(Below.refl _ _).alloc hb _, (Lib.OthersKept.refl _ _ _).alloc _⟩)
  have HE : Hid (Env W1) := Lib.hid (henv.below HB1.out.1 h8)
  have HSZ := Lib.hid hsz
  have HW1 := Lib.hid hW1
  obtain ⟨c0, c1, c2, c3⟩ := cells_four hbox
  clear hW1 h henv
  go_enter Tryz.func64, Tryz.ntmps64
  go_upto_region 5 with (fail)
  rw [HW1.out]
  clear HW1
  go_region_held3 (fun w' => w'.cell? ⟨W.heap.size, 1, none⟩ = some (.string ⟨s.toArray⟩))
    (first
      | go_keep
      | exact (cells_four (HS3.out.cell hbox (by decide))).2.1
      | exact (cells_four (HS2.out.cell hbox (by decide))).2.1)
    (first
      | (refine step_append_str (by rfl) _ _ _ _ (by rfl) base 5 i0 Tryz.underlying36 Tryz.underlying9 hi hz0 hz1 hz2 _ _ _ (by rfl) HS2.out.buf ⟨s.toArray⟩ ?h1 ?h2 ?h3 ?h4 ?h5
         case h1 => rfl
         case h2 => (rw [HSZ.out, List.length_append, List.length_singleton]; unfold maxLen; omega)
         case h3 => (rw [HSZ.out, List.length_append, List.length_singleton]; omega)
         case h4 => (have := HS2.out.below.size; omega)
         intro v3 w3 hown hgrow
         have HS3 : Hid (Step base (bs ++ [45] ++ s) v3 W1 w3) := Lib.hid (HS2.out.grown hb1 hown hgrow HSZ.out (by simp [Lib.byteCells, Lib.strCells]))
         clear hown hgrow)
      | (refine step_append_lies _ (by rfl) _ _ _ (by rfl) base 5 i0 _ 1 1 Tryz.underlying36 hi hz0 hz1 hz2 rfl (by omega) v bs.length (Lib.byteCells bs) (by rfl) ((HST1.out.buf.alloc _).drew) ⟨W1.heap.size, 0, none⟩ 1 1 [.int .u8 45] (by rfl) (by rfl) (World.news_of_block (cs := #[.int .u8 45]) (t := 5) (fr := (0, 0)) (World.alloc_heap_new W1 _)) (by simp [Value.oneCell']) (by omega) (by unfold maxLen; omega) (by omega) (by simp; omega) (W1.heap.size + 1) (by simp) ?_; intro gg capg w2 hown hgrow _ _; have HS2 : Hid (Step base (bs ++ [45]) (.slice (some ⟨gg, 0, none⟩) (bs.length + 1) capg) W1 w2) := Lib.hid (((HST1.out.alloc hb1 _).drew).grown hb1 hown hgrow rfl rfl); clear hown hgrow))
  have HLEN : Hid ((bs ++ [45] ++ s).length ≤ 2100000000000) := Lib.hid (by simp only [List.length_append, List.length_singleton]; omega)
  go_wp2_with (at_builtin; refine wpList_append_str rfl _ _ _ _ rfl base 5 i0 Tryz.underlying36 Tryz.underlying9 hi hz0 hz1 hz2 _ _ _ rfl HS3.out.buf ⟨#[13, 10]⟩ rfl ?c3 ?c4 ?c5 ?_)
  case c3 => have := HLEN.out; rw [show (⟨#[13, 10]⟩ : ByteArray).size = 2 from rfl]; simp only [List.length_append, List.length_cons, List.length_nil] at this ⊢; unfold maxLen; omega
  case c4 => have := HLEN.out; rw [show (⟨#[13, 10]⟩ : ByteArray).size = 2 from rfl]; simp only [List.length_append, List.length_cons, List.length_nil] at this ⊢; omega
  case c5 => have := HS3.out.below.size; omega
  intro v4 w4 hown hgrow
  have HS4 := Lib.hid (HS3.out.grown (cs := [13, 10]) (k := 2) (ys := Lib.strCells ⟨#[13, 10]⟩) hb1 (by simpa using hown) hgrow rfl rfl)
  clear hown hgrow
  go_wp2
  go_ret
  refine ⟨v4, rfl, ?_, HB1.out.1.trans HS4.out.below, HB1.out.2.trans HS4.out.others⟩
  have := HS4.out.buf
  simpa [Rp.own, Rp.crlf] using this

set_option maxRecDepth 100000 in
set_option maxHeartbeats 4000000 in
theorem own3 (base : Nat) (bs : List UInt8) (v : Value) (s : List UInt8) (n : Int) (a : Option Addr) (m cap : Nat) (W : World) (h : Buf base bs v W) (hb : base ≤ W.heap.size) (h8 : 8 ≤ base) (hl : bs.length ≤ 2000000000000) (_hs : s.length ≤ 1048576) (hn0 : -9223372036854775808 ≤ n) (hn1 : n ≤ 9223372036854775807) (_hm : m ≤ 281474976710656) (henv : Env W) :
    Calls Tryz.prog 64 #[v, rv 3 s n a m cap] W (BOut base (bs ++ Rp.own ⟨3, s, n, m⟩) W) := by
  obtain ⟨i0, hi, hz0, hz1, hz2⟩ := info_parts info5
  have hsz : (⟨s.toArray⟩ : ByteArray).size = s.length := by show s.toArray.size = _; simp
  unfold rv
  obtain ⟨W1, hW1⟩ : ∃ W1, W.alloc (.cells #[.int .i64 3, .string ⟨s.toArray⟩, .int .i64 n, .slice a m cap] 45) = W1 := ⟨_, rfl⟩
  have hbox : W1.heap[W.heap.size]? = some (.cells #[.int .i64 3, .string ⟨s.toArray⟩, .int .i64 n, .slice a m cap] 45 (0, 0)) := by rw [← hW1]; exact World.alloc_heap_new W _
  have hb1 : base ≤ W1.heap.size := by rw [← hW1, World.size_alloc]; omega
  have HST1 : Hid (Step base bs v W1 W1) := Lib.hid (Step.start (by rw [← hW1]; exact h.alloc _))
  have HB1 : Hid (Below base W W1 ∧ Lib.OthersKept 5 none W W1) := Lib.hid (by rw [← hW1]; exact ⟨(Below.refl _ _).alloc hb _, (Lib.OthersKept.refl _ _ _).alloc _⟩)
  have HE : Hid (Env W1) := Lib.hid (henv.below HB1.out.1 h8)
  have HSZ := Lib.hid hsz
  have HW1 := Lib.hid hW1
  obtain ⟨c0, c1, c2, c3⟩ := cells_four hbox
  clear hW1 h henv
  go_enter Tryz.func64, Tryz.ntmps64
  go_upto_region 7 with (fail)
  rw [HW1.out]
  clear HW1
  go_region_held3 (fun w' => w'.cell? ⟨W.heap.size, 2, none⟩ = some (.int .i64 n))
    (first
      | go_keep
      | exact (cells_four (HS3.out.cell hbox (by decide))).2.2.1
      | exact (cells_four (HS2.out.cell hbox (by decide))).2.2.1)
    (first
      | (go_at_call 82; refine (withNumber_any base (bs ++ [58]) _ (n) w2 HS2.out.buf (by have := HS2.out.below.size; omega) h8 (by simp only [List.length_append, List.length_singleton]; omega) hn0 hn1 (HE.out.below HS2.out.below h8)).mono ?_; rintro e w3 ⟨v3, rfl, hb3, hl3, ho3⟩; have HS3 := Lib.hid (HS2.out.call hb3 hl3 ho3); clear hb3 hl3 ho3)
      | (refine step_append_lies _ (by rfl) _ _ _ (by rfl) base 5 i0 _ 1 1 Tryz.underlying36 hi hz0 hz1 hz2 rfl (by omega) v bs.length (Lib.byteCells bs) (by rfl) ((HST1.out.buf.alloc _).drew) ⟨W1.heap.size, 0, none⟩ 1 1 [.int .u8 58] (by rfl) (by rfl) (World.news_of_block (cs := #[.int .u8 58]) (t := 5) (fr := (0, 0)) (World.alloc_heap_new W1 _)) (by simp [Value.oneCell']) (by omega) (by unfold maxLen; omega) (by omega) (by simp; omega) (W1.heap.size + 1) (by simp) ?_; intro gg capg w2 hown hgrow _ _; have HS2 : Hid (Step base (bs ++ [58]) (.slice (some ⟨gg, 0, none⟩) (bs.length + 1) capg) W1 w2) := Lib.hid (((HST1.out.alloc hb1 _).drew).grown hb1 hown hgrow rfl rfl); clear hown hgrow))
  have HLEN : Hid ((bs ++ [58] ++ Dig.dec (n)).length ≤ 2100000000000) := Lib.hid (by have := dec_len20 (n := n) (by omega) (by omega); simp only [List.length_append, List.length_singleton]; omega)
  go_wp2_with (at_builtin; refine wpList_append_str rfl _ _ _ _ rfl base 5 i0 Tryz.underlying36 Tryz.underlying9 hi hz0 hz1 hz2 _ _ _ rfl HS3.out.buf ⟨#[13, 10]⟩ rfl ?c3 ?c4 ?c5 ?_)
  case c3 => have := HLEN.out; rw [show (⟨#[13, 10]⟩ : ByteArray).size = 2 from rfl]; simp only [List.length_append, List.length_cons, List.length_nil] at this ⊢; unfold maxLen; omega
  case c4 => have := HLEN.out; rw [show (⟨#[13, 10]⟩ : ByteArray).size = 2 from rfl]; simp only [List.length_append, List.length_cons, List.length_nil] at this ⊢; omega
  case c5 => have := HS3.out.below.size; omega
  intro v4 w4 hown hgrow
  have HS4 := Lib.hid (HS3.out.grown (cs := [13, 10]) (k := 2) (ys := Lib.strCells ⟨#[13, 10]⟩) hb1 (by simpa using hown) hgrow rfl rfl)
  clear hown hgrow
  go_wp2
  go_ret
  refine ⟨v4, rfl, ?_, HB1.out.1.trans HS4.out.below, HB1.out.2.trans HS4.out.others⟩
  have := HS4.out.buf
  simpa [Rp.own, Rp.crlf] using this

set_option maxRecDepth 100000 in
set_option maxHeartbeats 4000000 in
theorem own6 (base : Nat) (bs : List UInt8) (v : Value) (s : List UInt8) (n : Int) (a : Option Addr) (m cap : Nat) (W : World) (h : Buf base bs v W) (hb : base ≤ W.heap.size) (h8 : 8 ≤ base) (hl : bs.length ≤ 2000000000000) (_hs : s.length ≤ 1048576) (_hn0 : -9223372036854775808 ≤ n) (_hn1 : n ≤ 9223372036854775807) (hm : m ≤ 281474976710656) (henv : Env W) :
    Calls Tryz.prog 64 #[v, rv 6 s n a m cap] W (BOut base (bs ++ Rp.own ⟨6, s, n, m⟩) W) := by
  obtain ⟨i0, hi, hz0, hz1, hz2⟩ := info_parts info5
  have hsz : (⟨s.toArray⟩ : ByteArray).size = s.length := by show s.toArray.size = _; simp
  unfold rv
  obtain ⟨W1, hW1⟩ : ∃ W1, W.alloc (.cells #[.int .i64 6, .string ⟨s.toArray⟩, .int .i64 n, .slice a m cap] 45) = W1 := ⟨_, rfl⟩
  have hbox : W1.heap[W.heap.size]? = some (.cells #[.int .i64 6, .string ⟨s.toArray⟩, .int .i64 n, .slice a m cap] 45 (0, 0)) := by rw [← hW1]; exact World.alloc_heap_new W _
  have hb1 : base ≤ W1.heap.size := by rw [← hW1, World.size_alloc]; omega
  have HST1 : Hid (Step base bs v W1 W1) := Lib.hid (Step.start (by rw [← hW1]; exact h.alloc _))
  have HB1 : Hid (Below base W W1 ∧ Lib.OthersKept 5 none W W1) := Lib.hid (by rw [← hW1]; exact ⟨(Below.refl _ _).alloc hb _, (Lib.OthersKept.refl _ _ _).alloc _⟩)
  have HE : Hid (Env W1) := Lib.hid (henv.below HB1.out.1 h8)
  have HSZ := Lib.hid hsz
  have HW1 := Lib.hid hW1
  obtain ⟨c0, c1, c2, c3⟩ := cells_four hbox
  clear hW1 h henv
  go_enter Tryz.func64, Tryz.ntmps64
  go_upto_region 14 with (fail)
  rw [HW1.out]
  clear HW1
  go_region_held3 (fun w' => w'.cell? ⟨W.heap.size, 3, none⟩ = some (.slice a m cap))
    (first
      | go_keep
      | exact (cells_four (HS3.out.cell hbox (by decide))).2.2.2
      | exact (cells_four (HS2.out.cell hbox (by decide))).2.2.2)
    (first
      | (go_at_call 82; refine (withNumber_any base (bs ++ [42]) _ ((m : Int)) w2 HS2.out.buf (by have := HS2.out.below.size; omega) h8 (by simp only [List.length_append, List.length_singleton]; omega) (by omega) (by omega) (HE.out.below HS2.out.below h8)).mono ?_; rintro e w3 ⟨v3, rfl, hb3, hl3, ho3⟩; have HS3 := Lib.hid (HS2.out.call hb3 hl3 ho3); clear hb3 hl3 ho3)
      | (refine step_append_lies _ (by rfl) _ _ _ (by rfl) base 5 i0 _ 1 1 Tryz.underlying36 hi hz0 hz1 hz2 rfl (by omega) v bs.length (Lib.byteCells bs) (by rfl) ((HST1.out.buf.alloc _).drew) ⟨W1.heap.size, 0, none⟩ 1 1 [.int .u8 42] (by rfl) (by rfl) (World.news_of_block (cs := #[.int .u8 42]) (t := 5) (fr := (0, 0)) (World.alloc_heap_new W1 _)) (by simp [Value.oneCell']) (by omega) (by unfold maxLen; omega) (by omega) (by simp; omega) (W1.heap.size + 1) (by simp) ?_; intro gg capg w2 hown hgrow _ _; have HS2 : Hid (Step base (bs ++ [42]) (.slice (some ⟨gg, 0, none⟩) (bs.length + 1) capg) W1 w2) := Lib.hid (((HST1.out.alloc hb1 _).drew).grown hb1 hown hgrow rfl rfl); clear hown hgrow))
  have HLEN : Hid ((bs ++ [42] ++ Dig.dec ((m : Int))).length ≤ 2100000000000) := Lib.hid (by have := dec_len20 (n := (m : Int)) (by omega) (by omega); simp only [List.length_append, List.length_singleton]; omega)
  go_wp2_with (at_builtin; refine wpList_append_str rfl _ _ _ _ rfl base 5 i0 Tryz.underlying36 Tryz.underlying9 hi hz0 hz1 hz2 _ _ _ rfl HS3.out.buf ⟨#[13, 10]⟩ rfl ?c3 ?c4 ?c5 ?_)
  case c3 => have := HLEN.out; rw [show (⟨#[13, 10]⟩ : ByteArray).size = 2 from rfl]; simp only [List.length_append, List.length_cons, List.length_nil] at this ⊢; unfold maxLen; omega
  case c4 => have := HLEN.out; rw [show (⟨#[13, 10]⟩ : ByteArray).size = 2 from rfl]; simp only [List.length_append, List.length_cons, List.length_nil] at this ⊢; omega
  case c5 => have := HS3.out.below.size; omega
  intro v4 w4 hown hgrow
  have HS4 := Lib.hid (HS3.out.grown (cs := [13, 10]) (k := 2) (ys := Lib.strCells ⟨#[13, 10]⟩) hb1 (by simpa using hown) hgrow rfl rfl)
  clear hown hgrow
  go_wp2
  go_ret
  refine ⟨v4, rfl, ?_, HB1.out.1.trans HS4.out.below, HB1.out.2.trans HS4.out.others⟩
  have := HS4.out.buf
  simpa [Rp.own, Rp.crlf] using this

set_option maxRecDepth 100000 in
set_option maxHeartbeats 4000000 in
theorem own5 (base : Nat) (bs : List UInt8) (v : Value) (s : List UInt8) (n : Int) (a : Option Addr) (m cap : Nat) (W : World) (h : Buf base bs v W) (hb : base ≤ W.heap.size) (h8 : 8 ≤ base) (hl : bs.length ≤ 2000000000000) (_hs : s.length ≤ 1048576) (_hn0 : -9223372036854775808 ≤ n) (_hn1 : n ≤ 9223372036854775807) (_hm : m ≤ 281474976710656) (henv : Env W) :
    Calls Tryz.prog 64 #[v, rv 5 s n a m cap] W (BOut base (bs ++ Rp.own ⟨5, s, n, m⟩) W) := by
  obtain ⟨i0, hi, hz0, hz1, hz2⟩ := info_parts info5
  have hsz : (⟨s.toArray⟩ : ByteArray).size = s.length := by show s.toArray.size = _; simp
  unfold rv
  obtain ⟨W1, hW1⟩ : ∃ W1, W.alloc (.cells #[.int .i64 5, .string ⟨s.toArray⟩, .int .i64 n, .slice a m cap] 45) = W1 := ⟨_, rfl⟩
  have hbox : W1.heap[W.heap.size]? = some (.cells #[.int .i64 5, .string ⟨s.toArray⟩, .int .i64 n, .slice a m cap] 45 (0, 0)) := by rw [← hW1]; exact World.alloc_heap_new W _
  have hb1 : base ≤ W1.heap.size := by rw [← hW1, World.size_alloc]; omega
  have HST1 : Hid (Step base bs v W1 W1) := Lib.hid (Step.start (by rw [← hW1]; exact h.alloc _))
  have HB1 : Hid (Below base W W1 ∧ Lib.OthersKept 5 none W W1) := Lib.hid (by rw [← hW1]; exact ⟨(Below.refl _ _).alloc hb _, (Lib.OthersKept.refl _ _ _).alloc _⟩)
  have HE : Hid (Env W1) := Lib.hid (henv.below HB1.out.1 h8)
  have HSZ := Lib.hid hsz
  have HW1 := Lib.hid hW1
  obtain ⟨c0, c1, c2, c3⟩ := cells_four hbox
  clear hW1 h henv
  go_enter Tryz.func64, Tryz.ntmps64
  go_upto_region 12 with (fail)
  rw [HW1.out]
  clear HW1
  go_wp2_with (at_builtin; refine wpList_append_own _ rfl _ _ _ rfl base 5 i0 (.int .u8 0) 1 1 Tryz.underlying36 hi hz0 hz1 hz2 rfl (by decide) _ _ _ rfl (HST1.out.buf.alloc _) ⟨W1.heap.size, 0, none⟩ 1 1 [.int .u8 36] rfl rfl ?d1 ?d2 ?d3 ?d4 ?d5 ?_)
  case d1 => exact World.news_of_block (cs := #[.int .u8 36]) (t := 5) (fr := (0, 0)) (World.alloc_heap_new W1 _)
  case d2 => intro u hu; simp at hu; subst hu; rfl
  case d3 => unfold maxLen; omega
  case d4 => omega
  case d5 => simp; omega
  intro v2 w2 hown hgrow _
  have HS2 : Hid (Step base (bs ++ [36]) v2 W1 w2) := Lib.hid ((HST1.out.alloc hb1 _).grown hb1 hown hgrow rfl rfl)
  clear hown hgrow
  have HLEN : Hid ((bs ++ [36] ++ Dig.dec (-1)).length ≤ 2100000000000) := Lib.hid (by have := dec_len20 (n := -1) (by omega) (by omega); simp only [List.length_append, List.length_singleton]; omega)
  go_wp2_with (first
    | ((go_at_call 82; refine (withNumber_any base (bs ++ [36]) _ (-1) w2 HS2.out.buf (by have := HS2.out.below.size; omega) h8 (by simp only [List.length_append, List.length_singleton]; omega) (by omega) (by omega) (HE.out.below HS2.out.below h8)).mono ?_; rintro e w3 ⟨v3, rfl, hb3, hl3, ho3⟩; have HS3 := Lib.hid (HS2.out.call hb3 hl3 ho3); clear hb3 hl3 ho3))
    | (at_builtin; refine wpList_append_str rfl _ _ _ _ rfl base 5 i0 Tryz.underlying36 Tryz.underlying9 hi hz0 hz1 hz2 _ _ _ rfl HS3.out.buf ⟨#[13, 10]⟩ rfl ?c3 ?c4 ?c5 ?_))
  case c3 => have := HLEN.out; rw [show (⟨#[13, 10]⟩ : ByteArray).size = 2 from rfl]; simp only [List.length_append, List.length_cons, List.length_nil] at this ⊢; unfold maxLen; omega
  case c4 => have := HLEN.out; rw [show (⟨#[13, 10]⟩ : ByteArray).size = 2 from rfl]; simp only [List.length_append, List.length_cons, List.length_nil] at this ⊢; omega
  case c5 => have := HS3.out.below.size; omega
  intro v4 w4 hown hgrow
  have HS4 := Lib.hid (HS3.out.grown (cs := [13, 10]) (k := 2) (ys := Lib.strCells ⟨#[13, 10]⟩) hb1 (by simpa using hown) hgrow rfl rfl)
  clear hown hgrow
  go_wp2
  go_ret
  refine ⟨v4, rfl, ?_, HB1.out.1.trans HS4.out.below, HB1.out.2.trans HS4.out.others⟩
  have := HS4.out.buf
  simpa [Rp.own, Rp.crlf] using this

set_option maxRecDepth 100000 in
set_option maxHeartbeats 4000000 in
theorem own4 (base : Nat) (bs : List UInt8) (v : Value) (s : List UInt8) (n : Int) (a : Option Addr) (m cap : Nat) (W : World) (h : Buf base bs v W) (hb : base ≤ W.heap.size) (h8 : 8 ≤ base) (hl : bs.length ≤ 2000000000000) (hs : s.length ≤ 1048576) (_hn0 : -9223372036854775808 ≤ n) (_hn1 : n ≤ 9223372036854775807) (_hm : m ≤ 281474976710656) (henv : Env W) :
    Calls Tryz.prog 64 #[v, rv 4 s n a m cap] W (BOut base (bs ++ Rp.own ⟨4, s, n, m⟩) W) := by
  obtain ⟨i0, hi, hz0, hz1, hz2⟩ := info_parts info5
  have hsz : (⟨s.toArray⟩ : ByteArray).size = s.length := by show s.toArray.size = _; simp
  unfold rv
  obtain ⟨W1, hW1⟩ : ∃ W1, W.alloc (.cells #[.int .i64 4, .string ⟨s.toArray⟩, .int .i64 n, .slice a m cap] 45) = W1 := ⟨_, rfl⟩
  have hbox : W1.heap[W.heap.size]? = some (.cells #[.int .i64 4, .string ⟨s.toArray⟩, .int .i64 n, .slice a m cap] 45 (0, 0)) := by rw [← hW1]; exact World.alloc_heap_new W _
  have hb1 : base ≤ W1.heap.size := by rw [← hW1, World.size_alloc]; omega
  have HST1 : Hid (Step base bs v W1 W1) := Lib.hid (Step.start (by rw [← hW1]; exact h.alloc _))
  have HB1 : Hid (Below base W W1 ∧ Lib.OthersKept 5 none W W1) := Lib.hid (by rw [← hW1]; exact ⟨(Below.refl _ _).alloc hb _, (Lib.OthersKept.refl _ _ _).alloc _⟩)
  have HE : Hid (Env W1) := Lib.hid (henv.below HB1.out.1 h8)
  have HSZ := Lib.hid hsz
  have HW1 := Lib.hid hW1
  obtain ⟨c0, c1, c2, c3⟩ := cells_four hbox
  clear hW1 h henv
  go_enter Tryz.func64, Tryz.ntmps64
  go_upto_region 9 with (fail)
  rw [HW1.out]
  clear HW1
  go_region_held3 (fun w' => w'.cell? ⟨W.heap.size, 1, none⟩ = some (.string ⟨s.toArray⟩))
    (first
      | go_keep
      | exact (cells_four (HS3.out.cell hbox (by decide))).2.1
      | exact (cells_four (HS2.out.cell hbox (by decide))).2.1)
    (first
      | (go_at_call 82; refine (withNumber_any base (bs ++ [36]) _ ((s.length : Int)) w2 HS2.out.buf (by have := HS2.out.below.size; omega) h8 (by simp only [List.length_append, List.length_singleton]; omega) (by omega) (by omega) (HE.out.below HS2.out.below h8)).mono ?_; rintro e w3 ⟨v3, rfl, hb3, hl3, ho3⟩; have HS3 := Lib.hid (HS2.out.call hb3 hl3 ho3); clear hb3 hl3 ho3)
      | (refine step_append_lies _ (by rfl) _ _ _ (by rfl) base 5 i0 _ 1 1 Tryz.underlying36 hi hz0 hz1 hz2 rfl (by omega) v bs.length (Lib.byteCells bs) (by rfl) ((HST1.out.buf.alloc _).drew) ⟨W1.heap.size, 0, none⟩ 1 1 [.int .u8 36] (by rfl) (by rfl) (World.news_of_block (cs := #[.int .u8 36]) (t := 5) (fr := (0, 0)) (World.alloc_heap_new W1 _)) (by simp [Value.oneCell']) (by omega) (by unfold maxLen; omega) (by omega) (by simp; omega) (W1.heap.size + 1) (by simp) ?_; intro gg capg w2 hown hgrow _ _; have HS2 : Hid (Step base (bs ++ [36]) (.slice (some ⟨gg, 0, none⟩) (bs.length + 1) capg) W1 w2) := Lib.hid (((HST1.out.alloc hb1 _).drew).grown hb1 hown hgrow rfl rfl); clear hown hgrow))
  have HLEN0 : Hid ((bs ++ [36] ++ Dig.dec s.length).length ≤ 2100000000000) := Lib.hid (by have := dec_len20 (n := s.length) (by omega) (by omega); simp only [List.length_append, List.length_singleton]; omega)
  have HBOX3 : Hid (w3.heap[W.heap.size]? = some (.cells #[.int .i64 4, .string ⟨s.toArray⟩, .int .i64 n, .slice a m cap] 45 (0, 0))) := Lib.hid (HS3.out.cell hbox (by decide))
  have HB3 : Hid (base ≤ w3.heap.size ∧ Below base W1 w3 ∧ Lib.OthersKept 5 none W1 w3) := Lib.hid ⟨by have := HS3.out.below.size; omega, HS3.out.below, HS3.out.others⟩
  have HST3 : Hid (Step base (bs ++ [36] ++ Dig.dec s.length) v3 w3 w3) := Lib.hid (Step.start HS3.out.buf)
  clear HS2 HS3 HST1 hbox c0 c1 c2 c3
  obtain ⟨c0, c1, c2, c3⟩ := cells_four HBOX3.out
  have hbox := HBOX3.out
  obtain ⟨hb3, -, -⟩ := HB3.out
  generalize hbs : bs ++ [36] ++ Dig.dec s.length = bs3 at HST3 HLEN0
  have HBS := Lib.hid hbs
  have hl3 := HLEN0.out
  clear hbs
  go_upto_region 10 with (fail)
  go_region_held3 (fun w' => w'.cell? ⟨W.heap.size, 1, none⟩ = some (.string ⟨s.toArray⟩))
    (first
      | go_keep
      | exact (cells_four (HS5.out.cell hbox (by decide))).2.1
      | exact (cells_four (HS4.out.cell hbox (by decide))).2.1)
    (first
      | (refine step_append_str (by rfl) _ _ _ _ (by rfl) base 5 i0 Tryz.underlying36 Tryz.underlying9 hi hz0 hz1 hz2 _ _ _ (by rfl) HS4.out.buf ⟨s.toArray⟩ ?g1 ?g2 ?g3 ?g4 ?g5
         case g1 => rfl
         case g2 => (rw [HSZ.out, List.length_append]; unfold maxLen; have : ([13, 10] : List UInt8).length = 2 := rfl; omega)
         case g3 => (rw [HSZ.out, List.length_append]; have : ([13, 10] : List UInt8).length = 2 := rfl; omega)
         case g4 => (have := HS4.out.below.size; omega)
         intro v5 w5 hown hgrow
         have HS5 : Hid (Step base (bs3 ++ [13, 10] ++ s) v5 w3 w5) := Lib.hid (HS4.out.grown hb3 hown hgrow HSZ.out (by simp [Lib.byteCells, Lib.strCells]))
         clear hown hgrow)
      | (refine step_append_str (by rfl) _ _ _ _ (by rfl) base 5 i0 Tryz.underlying36 Tryz.underlying9 hi hz0 hz1 hz2 _ _ _ (by rfl) (HST3.out.drew).buf ⟨#[13, 10]⟩ ?h1 ?h2 ?h3 ?h4 ?h5
         case h1 => rfl
         case h2 => (rw [show (⟨#[13, 10]⟩ : ByteArray).size = 2 from rfl]; unfold maxLen; omega)
         case h3 => (rw [show (⟨#[13, 10]⟩ : ByteArray).size = 2 from rfl]; omega)
         case h4 => exact hb3
         intro v4 w4 hown hgrow
         have HS4 : Hid (Step base (bs3 ++ [13, 10]) v4 w3 w4) := Lib.hid ((HST3.out.drew).grown hb3 hown hgrow rfl rfl)
         clear hown hgrow))
  go_wp2_with (at_builtin; refine wpList_append_str rfl _ _ _ _ rfl base 5 i0 Tryz.underlying36 Tryz.underlying9 hi hz0 hz1 hz2 _ _ _ rfl HS5.out.buf ⟨#[13, 10]⟩ rfl ?c3 ?c4 ?c5 ?_)
  case c3 => rw [show (⟨#[13, 10]⟩ : ByteArray).size = 2 from rfl]; simp only [List.length_append, List.length_cons, List.length_nil]; unfold maxLen; omega
  case c4 => rw [show (⟨#[13, 10]⟩ : ByteArray).size = 2 from rfl]; simp only [List.length_append, List.length_cons, List.length_nil]; omega
  case c5 => have := HS5.out.below.size; omega
  intro v6 w6 hown hgrow
  have HS6 := Lib.hid (HS5.out.grown (cs := [13, 10]) (k := 2) (ys := Lib.strCells ⟨#[13, 10]⟩) hb3 (by simpa using hown) hgrow rfl rfl)
  clear hown hgrow
  go_wp2
  go_ret
  refine ⟨v6, rfl, ?_, HB1.out.1.trans (HB3.out.2.1.trans HS6.out.below), HB1.out.2.trans (HB3.out.2.2.trans HS6.out.others)⟩
  have := HS6.out.buf
  rw [← HBS.out] at this
  simpa [Rp.own, Rp.crlf] using this

/-- resp.withOwn, of a reply that may stand so. -/
theorem withOwn_any (base : Nat) (bs : List UInt8) (v : Value) (h : Rp.H) (a : Option Addr) (cap : Nat) (W : World) (hbuf : Buf base bs v W) (hb : base ≤ W.heap.size) (h8 : 8 ≤ base) (hl : bs.length ≤ 2000000000000) (hf : Fit h.k h.s h.n h.m cap) (hs : h.s.length ≤ 1048576) (hk : 1 ≤ h.k ∧ h.k ≤ 6) (henv : Env W) :
    Calls Tryz.prog 64 #[v, rv h.k h.s h.n a h.m cap] W (BOut base (bs ++ Rp.own h) W) := by
  obtain ⟨k, s, n, m⟩ := h
  obtain ⟨f1, f2, f3, f4, f5, f6, f7⟩ := hf
  simp only at *
  have : k = 1 ∨ k = 2 ∨ k = 3 ∨ k = 4 ∨ k = 5 ∨ k = 6 := by omega
  rcases this with rfl | rfl | rfl | rfl | rfl | rfl
  · exact own1 base bs v s n a m cap W hbuf hb h8 hl hs f3 f4 (by omega) henv
  · exact own2 base bs v s n a m cap W hbuf hb h8 hl hs f3 f4 (by omega) henv
  · exact own3 base bs v s n a m cap W hbuf hb h8 hl hs f3 f4 (by omega) henv
  · exact own4 base bs v s n a m cap W hbuf hb h8 hl hs f3 f4 (by omega) henv
  · exact own5 base bs v s n a m cap W hbuf hb h8 hl hs f3 f4 (by omega) henv
  · exact own6 base bs v s n a m cap W hbuf hb h8 hl hs f3 f4 (by omega) henv
end Go.Proofs.YtbkhnnjjpelfcaaGreatDoor
namespace Go.Proofs.YtbkhnnjjpelfcaaGreatDoor
open Go.RowKit Go.Shelf
attribute [local go_sem] Oper.semAt_some

namespace Rp
/-- the bytes of a walk's parts. -/
def encH (hs : List (H × Nat)) : List UInt8 := hs.flatMap fun p => own p.1
theorem encH_append (a b : List (H × Nat)) : encH (a ++ b) = encH a ++ encH b := by unfold encH; exact List.flatMap_append
mutual
theorem encH_heads (lev : Nat) : ∀ r : R, encH (heads lev r) = enc r
  | .mk k s n l => by
    unfold heads enc
    rw [← encH_headsL (lev + 1) l]
    rfl
theorem encH_headsL (lev : Nat) : ∀ l : List R, encH (headsL lev l) = encL l
  | [] => rfl
  | r :: l => by
    unfold headsL encL
    rw [encH_append, encH_heads lev r, encH_headsL lev l]
end

/-- may stand so, but for its elements. -/
def FQ (h : H) : Prop := fitsB h = true

theorem fits_size {h : H} (hf : FQ h) : h.s.length ≤ 1048576 ∧ 1 ≤ h.k ∧ h.k ≤ 6 := by
  unfold FQ fitsB at hf
  split at hf
  · simp at hf; omega
  split at hf
  · simp at hf
    rw [hf.1]; simp; omega
  split at hf
  · simp at hf; omega
  split at hf
  · simp at hf
    rw [hf.1.1]; simp; omega
  split at hf
  · simp at hf
    rw [hf.1.1]; simp; omega
  · cases hf
end Rp

theorem own_len {h : Rp.H} {cap : Nat} (hf : Fit h.k h.s h.n h.m cap) (hs : h.s.length ≤ 1048576) : (Rp.own h).length ≤ 1048620 := by
  obtain ⟨f1, f2, f3, f4, f5, f6, f7⟩ := hf
  unfold Rp.own
  have h1 := dec_len20 f3 f4
  have h2 := dec_len20 (n := h.s.length) (by omega) (by omega)
  have h3 := dec_len20 (n := h.m) (by omega) (by omega)
  have h4 := dec_len20 (n := -1) (by omega) (by omega)
  rw [List.length_append]
  have h5 : Rp.crlf.length = 2 := rfl
  repeat' split
  all_goals simp only [List.length_cons, List.length_append, List.length_nil]
  all_goals omega

theorem Buf.form {base : Nat} {bs : List UInt8} {v : Value} {W : World} (h : Buf base bs v W) : ∃ a m c, v = .slice a m c := by
  rcases h.2 with ⟨rfl, _⟩ | ⟨g, cap, cur, rfl, _⟩
  · exact ⟨_, _, _, rfl⟩
  · exact ⟨_, _, _, rfl⟩

theorem may_allF {r : Rp.R} (h : Rp.mayB r = true) : AllQ Rp.FQ (Rp.heads 0 r) := by
  intro p hp
  have := List.all_eq_true.1 h p hp
  unfold Rp.okB at this
  simp only [Bool.and_eq_true] at this
  exact this.1

/-- the row that is being filled, between two rounds. -/
def PInv (w : World) (Bb base : Nat) (O : Nat → Prop) (pre : List (PV Rp.FQ)) (W : World) : Prop :=
  (∃ v, Boxed W Bb 36 v ∧ Buf base (Rp.encH (pre.map PV.hl)) v W ∧ ∀ g, v.ownBlock = some g → O g) ∧ (Rp.encH (pre.map PV.hl)).length ≤ 1048620 * pre.length ∧ Below w.heap.size w W

theorem put_end {w A W2 : World} {Bb b : Nat} {O : Nat → Prop} {pre : List (PV Rp.FQ)} {x : PV Rp.FQ} {v v' : Value} {aa : Act} (hb : Boxed A Bb 36 v) (hBb : w.heap.size ≤ Bb ∧ Bb < b) (hlen : (Rp.encH (pre.map PV.hl)).length ≤ 1048620 * pre.length) (hB : Below w.heap.size w A)
    (h1 : Buf (b + 2) (Rp.encH (pre.map PV.hl) ++ Rp.own x.h) v' W2) (h2 : Below (b + 2) A W2) (h3 : Lib.OthersKept 5 none A W2) :
    ownPostN (b + 2) (fun k => k < w.heap.size) (OwnS (fun _ => False) b O) O (PInv w Bb (b + 2)) (fun _ _ _ _ => False) (pre ++ [x]) A .normal aa (W2.setCell ⟨Bb, 0, none⟩ v') := by
  have hbx : Boxed W2 Bb 36 v := (h2.block Bb (by omega)).trans hb
  have e1 : Rp.encH ((pre ++ [x]).map PV.hl) = Rp.encH (pre.map PV.hl) ++ Rp.own x.h := by rw [List.map_append, Rp.encH_append]; simp [Rp.encH, PV.hl]
  have hk : KeepsN (fun k => k < w.heap.size) (OwnS (fun _ => False) b O) A W2 := ⟨h2.os, h2.tape, h2.output, h2.size, fun k hk hs => by
    rcases hs with hs | ⟨hs, hn⟩
    · exact h2.block k (by omega)
    · have he : A.heap[k]? = some (A.heap[k]'hk) := Array.getElem?_eq_getElem hk
      rw [he]
      exact h3 k _ he (by simp) fun c fz e => hn c fz (by rw [he, e])⟩
  refine ⟨hk.setCell (.inr ?_) _, fun k => v'.ownBlock = some k, ?_, ⟨v', hbx.set _, ?_, fun g hg => hg⟩, ?_, ?_⟩
  · rintro (h | h | h)
    · have h : Bb < w.heap.size := h
      omega
    · exact h
    · have h : b ≤ Bb := h.1
      omega
  · intro k hk'
    have hg := h1.lt k hk'
    refine ⟨by simp; exact hg.2, ?_⟩
    by_cases hs : A.heap.size ≤ k
    · exact .inr (.inl hs)
    · refine .inr (.inr ⟨hg.1, fun hn => ?_⟩)
      obtain ⟨c, fz, hc⟩ := Lib.ownsRow_kind h1 k hk'
      have hlt : k < A.heap.size := by omega
      have he : A.heap[k]? = some (A.heap[k]'hlt) := Array.getElem?_eq_getElem hlt
      have := h3 k _ he (by simp) fun c fz e => hn c fz (by rw [he, e])
      rw [hc] at this
      exact hn c fz (by rw [he, ← this])
  · rw [e1]
    exact ownsRow_setCell_below h1 (by simp; omega) _
  · rw [e1, List.length_append, List.length_append, List.length_singleton]
    have := own_len x.fit (Rp.fits_size x.q).1
    omega
  · exact (hB.trans (h2.mono (by omega))).setCell (p := ⟨Bb, 0, none⟩) hBb.1 _

set_option maxRecDepth 100000 in
set_option maxHeartbeats 4000000 in
theorem put_any (r : Rp.R) (a : Option Addr) (cap : Nat) (w : World) (hsz : (Rp.heads 0 r).length ≤ 1000000) (hcas : AllQ CAQ (Rp.heads 0 r)) (henv : Env w) (hrep : Rep (fun k => k < w.heap.size) w r (rv r.k r.s r.n a r.l.length cap)) :
    CallsIn Fence.wide 0 Tryz.prog 38 #[rv r.k r.s r.n a r.l.length cap] w fun e W' => ∃ v, e = .returned v ∧ Buf w.heap.size (Rp.putB r) v W' ∧ Below w.heap.size w W' := by
  obtain ⟨w1, hw1⟩ : ∃ w1, w.alloc (.cells #[.int .i64 r.k, .string ⟨r.s.toArray⟩, .int .i64 r.n, .slice a r.l.length cap] 45) = w1 := ⟨_, rfl⟩
  have hs1 : w1.heap.size = w.heap.size + 1 := by rw [← hw1]; simp
  have hB1 : Below w.heap.size w w1 := by rw [← hw1]; exact (Below.refl _ w).alloc (Nat.le_refl _) _
  have hbox1 : w1.heap[w.heap.size]? = some (.cells #[.int .i64 r.k, .string ⟨r.s.toArray⟩, .int .i64 r.n, .slice a r.l.length cap] 45 (0, 0)) := by rw [← hw1]; exact World.alloc_heap_new w _
  have hm := rpMay_any r a cap w1 hsz hcas (Rep.keeps (Keeps.of_below hB1 fun _ h _ => h) (fun k h _ => by omega) r _ hrep)
  have HREP := Lib.hid hrep
  have HB1 := Lib.hid hB1
  have HS1 := Lib.hid hs1
  have HBX := Lib.hid hbox1
  have HENV := Lib.hid henv
  clear hrep hB1 hs1 hbox1 hcas henv
  subst hw1
  unfold rv at hm ⊢
  refine callsIn_of_wp_marks Tryz.func38 rfl trivial ?_ rfl
  simp only [Tryz.ntmps38, List.size_toArray, List.length_cons, List.length_nil, Nat.reduceAdd, Nat.reduceSub, Array.replicate_succ, Array.replicate_zero, List.push_toArray, List.append_toArray, List.nil_append, List.cons_append]
  cases hmay : Rp.mayB r with
  | false =>
    rw [hmay] at hm
    have HP : Hid (Rp.putB r = []) := Lib.hid (by unfold Rp.putB; rw [hmay]; rfl)
    gi_wp2_with (refine ⟨trivial, rfl, ?_⟩; refine hm.mono ?_; rintro e w2 ⟨rfl, hb2⟩; have H2 := Lib.hid hb2; clear hb2 hm)
    refine ⟨_, results_tmp rfl _ _ _, _, rfl, ?_, ?_⟩
    · rw [HP.out]
      exact World.ownsRow_nil _ _ _ _
    · exact HB1.out.trans (H2.out.mono HB1.out.size)
  | true =>
    rw [hmay] at hm
    have HP : Hid (Rp.putB r = Rp.enc r) := Lib.hid (by unfold Rp.putB; rw [hmay]; rfl)
    have HQ := Lib.hid (may_allF hmay)
    have hbx2 : ∀ w2, Below (w.alloc (.cells #[.int .i64 r.k, .string ⟨r.s.toArray⟩, .int .i64 r.n, .slice a r.l.length cap] 45)).heap.size (w.alloc (.cells #[.int .i64 r.k, .string ⟨r.s.toArray⟩, .int .i64 r.n, .slice a r.l.length cap] 45)) w2 →
        w2.heap[w.heap.size]? = some (.cells #[.int .i64 r.k, .string ⟨r.s.toArray⟩, .int .i64 r.n, .slice a r.l.length cap] 45 (0, 0)) := fun w2 h => (h.block _ (by simp)).trans HBX.out
    have HBX2 := Lib.hid hbx2
    clear hbx2
    gi_wp2_with (refine ⟨trivial, rfl, ?_⟩; refine hm.mono ?_; rintro e w2 ⟨rfl, hb2⟩; have hbx := HBX2.out w2 hb2; obtain ⟨y0, y1, y2, y3⟩ := cells_four (((Keeps.refl (fun _ => True) w2).alloc (.cells #[.slice none 0 0] 36)).heap hbx trivial); clear hbx; have H2 := Lib.hid hb2; clear hb2 hm)
    have hs2 : w.heap.size + 1 ≤ w2.heap.size := by have := H2.out.size; rw [HS1.out] at this; exact this
    have hp := parts_any r.k r.s r.n a r.l.length cap (w2.alloc (.cells #[.slice none 0 0] 36))
    rw [World.size_alloc] at hp
    unfold rv at hp
    gi_wp2_with (refine ⟨trivial, rfl, ?_⟩; refine hp.mono ?_; rintro e w3 ⟨rfl, hw3⟩; have HW3 := Lib.hid hw3; clear hw3 hp)
    have hw3 := HW3.out
    clear HW3
    have hB3 : Below w.heap.size w w3 := by rw [hw3]; exact ((HB1.out.trans (H2.out.mono HB1.out.size)).alloc (by omega) _).alloc (by simp; omega) _
    have hbb : Boxed w3 w2.heap.size 36 (.slice none 0 0) := by rw [hw3]; exact (Boxed.new w2 36 _).alloc _
    have hbox : w3.heap[w2.heap.size + 1]? = some (.cells #[.int .i64 r.k, .string ⟨r.s.toArray⟩, .int .i64 r.n, .slice a r.l.length cap] 45 (0, 0)) := by
      rw [hw3]
      have := World.alloc_heap_new (w2.alloc (.cells #[.slice none 0 0] 36)) (.cells #[.int .i64 r.k, .string ⟨r.s.toArray⟩, .int .i64 r.n, .slice a r.l.length cap] 45)
      rwa [World.size_alloc] at this
    have hs3 : w3.heap.size = w2.heap.size + 2 := by rw [hw3]; simp
    clear hw3 y0 y1 y2 y3 HB1 HS1 HBX H2
    have hseq := parts_seq (Q := Rp.FQ) false (w2.heap.size + 1) r a cap w3 HQ.out hsz (by omega) hbox (fun k => k < w.heap.size) (Rep.keeps (Keeps.of_below hB3 fun _ h _ => h) (fun _ h _ => h) r _ HREP.out)
    clear hbox
    have h8 := HENV.out.size
    refine wpIn_rangeN (gf := 80) (lb := #[.pointer (some ⟨w2.heap.size + 1, 0, none⟩)]) rfl (enters_of Tryz.func80 (by kernel_rfl) rfl)
      hseq (Below.refl _ _) (fun k h => by omega) (fun k h => h.elim) (fun _ => rfl)
      (PInv w w2.heap.size (w3.heap.size + 2)) (fun _ _ _ _ => False)
      ?hI (fun _ _ _ _ _ h _ => h) (fun _ _ _ _ _ h => h) ⟨⟨_, hbb, World.ownsRow_nil _ _ _ _, by simp [Value.ownBlock]⟩, by simp [Rp.encH], hB3⟩
      (VVar (Q := Rp.FQ) (w3.heap.size + 2) (fun Bx x => { tmps := #[.agg #[.int .i64 r.k, .string ⟨r.s.toArray⟩, .int .i64 r.n, .slice a r.l.length cap], .pointer (some ⟨w.heap.size, 0, none⟩), .slice none 0 0, .pointer (some ⟨w2.heap.size, 0, none⟩), .pointer (some ⟨Bx, 0, none⟩), .agg #[.int .i64 r.k, .string ⟨r.s.toArray⟩, .int .i64 r.n, .slice a r.l.length cap], .bool true, .bool false, .agg #[.int .i64 r.k, .string ⟨r.s.toArray⟩, .int .i64 r.n, .slice a r.l.length cap], .func (.func 80) #[] #[.pointer (some ⟨w2.heap.size + 1, 0, none⟩)], rv x.h.k x.h.s x.h.n x.a x.h.m x.cap, .int .i64 x.lev, undef, undef, undef, undef], defers := [] }))
      (fun O x a' A C h hk => h.later (by omega) hk) ?assign ?body ?done ?stop
    case hI =>
      rintro O s A C ⟨⟨v, h1, h2, h3⟩, h4, h5⟩ hk
      have own : ∀ k, k < w3.heap.size → IterS (fun _ => False) w3.heap.size O k := fun k h => ⟨id, .inl h⟩
      exact ⟨⟨v, hk.heap h1 (own _ (by omega)), owns_kept h2 hk (fun g hg => ⟨id, .inr (h3 g hg)⟩), h3⟩, h4, h5.trans (hk.below h5.size fun k hk' => own k (by omega))⟩
    case assign =>
      intro O pre x A K hO hA ⟨⟨v, h1, h2, h3⟩, h4, h5⟩ hK
      have HK := Lib.hid hK
      clear hK
      unfold encV rv
      gi_wp2
      exact HK.out _ _ (KeepsN.refl _ _ _ |>.alloc _) ⟨⟨v, h1.alloc _, h2.alloc _, h3⟩, h4, h5.alloc h5.size _⟩ ⟨A.heap.size, by omega, fun h => by have := (hO _ h).2; omega, World.alloc_heap_new A _, rfl⟩
    case body =>
      rintro O pre x a' A hO hA ⟨r', hr⟩ ⟨⟨v, hv, hbuf, hown⟩, hlen, hB⟩ ⟨Bx, hBx, hnO, hcx, rfl⟩ hpl
      have b1 := hv.cell
      have b2 := hv.frozen
      obtain ⟨x0, x1, x2, x3⟩ := cells_four hcx
      have hsz2 : (Rp.encH (pre.map PV.hl)).length ≤ 2000000000000 := by omega
      have hwo := in_round (l := w3.heap.size + 1) (withOwn_any (w3.heap.size + 2) _ v x.h x.a x.cap A hbuf hA (by omega) hsz2 x.fit (Rp.fits_size x.q).1 (Rp.fits_size x.q).2 (HENV.out.below hB h8))
      have hfin : ∀ W2 v', Buf (w3.heap.size + 2) (Rp.encH (pre.map PV.hl) ++ Rp.own x.h) v' W2 → Below (w3.heap.size + 2) A W2 → Lib.OthersKept 5 none A W2 → ∀ aa, ownPostN (w3.heap.size + 2) (fun k => k < w.heap.size) (OwnS (fun _ => False) w3.heap.size O) O (PInv w w2.heap.size (w3.heap.size + 2)) (fun _ _ _ _ => False) (pre ++ [x]) A .normal aa (W2.setCell ⟨w2.heap.size, 0, none⟩ v') := fun W2 v' h1 h2 h3 aa => put_end hv ⟨by omega, by omega⟩ hlen hB h1 h2 h3
      have hcl : ∀ W2, Below (w3.heap.size + 2) A W2 → W2.cell? ⟨w2.heap.size, 0, none⟩ = some v ∧ W2.frozen? ⟨w2.heap.size, 0, none⟩ = false := fun W2 h => by
        have := (h.block w2.heap.size (by omega)).trans hv
        exact ⟨Boxed.cell this, Boxed.frozen this⟩
      have HFIN := Lib.hid hfin
      have HCL := Lib.hid hcl
      unfold rv at hwo ⊢
      clear hcx hr hv hbuf hown hlen hB hO hfin hcl hs3
      gi_wp2_with (refine ⟨trivial, rfl, ?_⟩; refine hwo.mono ?_; rintro e W2 ⟨v', rfl, h1, h2, h3⟩; obtain ⟨a9, m9, c9, rfl⟩ := h1.form; obtain ⟨z1, z2⟩ := HCL.out W2 h2; have H1 := Lib.hid (HFIN.out W2 _ h1 h2 h3); clear h1 h2 h3 hwo HFIN)
      exact H1.out _
    case done =>
      rintro O D xs A hD hDs hO - hSx ⟨⟨v, hv, hbuf, hown⟩, hlen, hB⟩ hDd
      have b1 := hv.cell
      have HH : Hid (Rp.encH (xs.map PV.hl) = Rp.enc r) := Lib.hid (by rw [hSx, Rp.encH_heads])
      clear hSx
      gi_wp2
      have hk : Keeps (fun k => k ≠ D) A (A.putObj D (.deferred none)) := (Keeps.refl _ A).putObj (fun h => h rfl) _
      refine ⟨by simp, .inl ⟨_, _, rfl, run_takeDeferred hDd, ?_⟩⟩
      refine ⟨_, results_tmp rfl _ _ _, v, rfl, ?_, hB.trans (hk.below hB.size fun k hk' => by omega)⟩
      rw [HP.out, ← HH.out]
      refine owns_base (owns_kept hbuf hk fun g hg => ?_) (by omega)
      have := (hO g (hown g hg)).1
      omega
    case stop =>
      rintro O D c pre A _ _ _ _ _ h _
      exact h.elim
end Go.Proofs.YtbkhnnjjpelfcaaGreatDoor
