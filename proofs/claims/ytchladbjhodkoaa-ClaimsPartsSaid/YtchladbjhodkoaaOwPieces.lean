/- The contract of claims.pieces: the iterator gives pieces side by side from slot 0 to the last. -/
import Derived.Test.YtchladbjhodkoaaOwStretch
import Derived.Test.YtchladbjhodkoaaSeq
import Derived.Test.YtchladbjhodkoaaSeqPlain
import Derived.Shelf.Abstract
import Derived.WalkKit
import Derived.OwnWalkIn
import Derived.TacticsInMore
import Derived.LoopNIn
import Derived.LoopIn
import Derived.Lib.Hide
import Derived.Outline
import Derived.WalkSpells
import Derived.Deep.RegionHeld3
namespace Go.Proofs.Ytchladbjhodkoaa
open Go.RowKit Go.Shelf
attribute [local go_sem] Oper.semAt_some

/-- a piece as yield takes it. -/
def encO (x : Ow.PV) : Array Value := #[.agg #[.int .i64 x.1.1.1, .int .i64 x.1.1.2], .agg #[.int .i64 (Ow.zo x.2.1.1).1, .int .i64 (Ow.zo x.2.1.1).2, .int .i64 (Ow.zo x.2.1.2).1, .int .i64 (Ow.zo x.2.1.2).2]]

theorem Cls.keeps {S : Nat → Prop} {w w' : World} {a : Option Addr} {cap : Nat} {l : List Ow.C} (h : Cls w a cap l) (hs : l ≠ [] → ∀ x, a = some x → S x.block) (hk : Keeps S w w') : Cls w' a cap l := by
  obtain ⟨h0, h1, h2, h3⟩ := h
  refine ⟨h0, h1, h2, ?_⟩
  rcases h3 with h3 | ⟨b, off, rfl, hlt, hc⟩
  · exact .inl h3
  · by_cases hl : l = []
    · exact .inl hl
    have hb : S b := hs hl _ rfl
    exact .inr ⟨b, off, rfl, Nat.lt_of_lt_of_le hlt hk.size, fun k h => by
      obtain ⟨c1, c2, c3, c4⟩ := hc k h
      exact ⟨(hk.cell (p := ⟨b, off + k * 4, none⟩) hlt hb).trans c1, (hk.cell (p := ⟨b, off + k * 4 + 1, none⟩) hlt hb).trans c2, (hk.cell (p := ⟨b, off + k * 4 + 2, none⟩) hlt hb).trans c3, (hk.cell (p := ⟨b, off + k * 4 + 3, none⟩) hlt hb).trans c4⟩⟩

set_option maxHeartbeats 1000000 in
theorem pieces_any (sa sb : Value) (w : World) (hsa : ∃ a n c, sa = .slice a n c) (hsb : ∃ a n c, sb = .slice a n c) :
    CallsIn Fence.wide 0 Try.prog 48 #[sa, sb] w fun e w' =>
      e = .returned (.func (.func 55) #[] #[.pointer (some ⟨w.heap.size, 0, none⟩), .pointer (some ⟨w.heap.size + 1, 0, none⟩)]) ∧ w' = (w.alloc (.cells #[sa] 22)).alloc (.cells #[sb] 22) := by
  obtain ⟨a, n, c, rfl⟩ := hsa
  obtain ⟨a', n', c', rfl⟩ := hsb
  refine callsIn_of_wp Try.func48 rfl trivial ?_ rfl
  simp only [Try.ntmps48, List.size_toArray, List.length_cons, List.length_nil, Nat.reduceAdd, Nat.reduceSub, Array.replicate_succ, Array.replicate_zero, List.push_toArray, List.append_toArray, List.nil_append, List.cons_append]
  gi_wp2
  go_ret
  exact ⟨by simp, rfl⟩

set_option maxRecDepth 100000 in
set_option maxHeartbeats 4000000 in
theorem pieces_seq (Ba Bb : Nat) (a1 a2 : Option Addr) (cap1 cap2 : Nat) (la lb : List Ow.C) (w : World) (hva : Ow.VL la) (hvb : Ow.VL lb) (hBa : Ba < w.heap.size) (hBb : Bb < w.heap.size)
    (hbxa : w.cell? ⟨Ba, 0, none⟩ = some (.slice a1 la.length cap1)) (hbxb : w.cell? ⟨Bb, 0, none⟩ = some (.slice a2 lb.length cap2)) (hA : Cls w a1 cap1 la) (hB : Cls w a2 cap2 lb) (Dt Pv : Nat → Prop)
    (hD1 : la ≠ [] → ∀ x, a1 = some x → Dt x.block) (hD2 : lb ≠ [] → ∀ x, a2 = some x → Dt x.block) :
    SeqT false Try.prog 55 #[.pointer (some ⟨Ba, 0, none⟩), .pointer (some ⟨Bb, 0, none⟩)] encO Dt Pv (fun xs => Ow.PC (Ow.own la) (Ow.own lb) xs 16384) (fun _ => False) 16384 w := by
  intro l J Jx W hW hJ _ hst hY h0
  have HX : Hid (∀ O s A, ¬ Jx O s A) := Lib.hid (hst rfl)
  clear hst
  have hx1 := (hW.cell (p := ⟨Ba, 0, none⟩) hBa).trans hbxa
  have hx2 := (hW.cell (p := ⟨Bb, 0, none⟩) hBb).trans hbxb
  have hBaW : Ba < W.heap.size := Nat.lt_of_lt_of_le hBa hW.size
  have hBbW : Bb < W.heap.size := Nat.lt_of_lt_of_le hBb hW.size
  have HA := Lib.hid (hA.later hW)
  have HB := Lib.hid (hB.later hW)
  have HVA := Lib.hid (Ow.Rest.start _ hva)
  have HVB := Lib.hid (Ow.Rest.start _ hvb)
  have HOK : Hid (∀ k, Ow.okO (Ow.own la k) ∧ Ow.okO (Ow.own lb k)) := Lib.hid (fun k => ⟨Ow.okO_own hva k, Ow.okO_own hvb k⟩)
  have HD1 := Lib.hid hD1
  have HD2 := Lib.hid hD2
  clear hA hB hbxa hbxb hBa hBb hva hvb hD1 hD2
  refine callsIn_of_wp Try.func55 rfl trivial ?_ rfl
  simp only [Try.ntmps55, List.size_toArray, List.length_cons, List.length_nil, Nat.reduceAdd, Nat.reduceSub, Array.replicate_succ, Array.replicate_zero, List.push_toArray, List.append_toArray, List.nil_append, List.cons_append]
  gi_wp2
  refine wpIn_wide.2 ?_
  go_quiet (fail)
  have hB1 : Below W.heap.size W (W.drewN nq) := below_drewN (Below.refl _ _) _
  generalize W.drewN nq = W1 at hB1 ⊢
  have HB1 := Lib.hid hB1
  clear hB1 hx1 hx2
  gi_wp2
  gi_loopw [4, 5, 6] (fun va vb i wr => ∃ (ra rb : List Ow.C) (x1 x2 : Option Addr) (d1 d2 : Nat) (n : Int) (pre : List Ow.PV) (O : Nat → Prop), va = .slice x1 ra.length d1 ∧ vb = .slice x2 rb.length d2 ∧ i = .int .i64 n ∧ 0 ≤ n ∧ n ≤ 16384 ∧ Hid (Ow.PC (Ow.own la) (Ow.own lb) pre n) ∧ Hid (Ow.Rest (Ow.own la) ra n) ∧ Hid (Ow.Rest (Ow.own lb) rb n) ∧ Hid (Cls wr x1 d1 ra ∧ (ra ≠ [] → ∀ y, x1 = some y → Dt y.block)) ∧ Hid (Cls wr x2 d2 rb ∧ (rb ≠ [] → ∀ y, x2 = some y → Dt y.block)) ∧ Hid (∀ k, O k → W.heap.size ≤ k ∧ k < wr.heap.size) ∧ Hid (J O pre wr) ∧ W.heap.size ≤ wr.heap.size)
    (fun _ _ i _ => 16384 - (intOf i).toNat)
  case atStart => exact ⟨la, lb, a1, a2, cap1, cap2, 0, [], fun _ => False, rfl, rfl, rfl, by omega, by omega, Lib.hid .nil, HVA, HVB, Lib.hid ⟨HA.out.later HB1.out, HD1.out⟩, Lib.hid ⟨HB.out.later HB1.out, HD2.out⟩, Lib.hid (fun _ h => h.elim), Lib.hid (hJ _ _ _ _ h0 (Keeps.of_below HB1.out fun k h _ => h)), HB1.out.size⟩
  case round =>
    obtain ⟨ra, rb, x1, x2, d1, d2, n, pre, O, rfl, rfl, rfl, n0, n1, HP, HRA, HRB, HSA, HSB, HO, HJ, hsz⟩ := hrel
    by_cases hlt : n < 16384
    · obtain ⟨sa, hsa⟩ : ∃ sa, Ow.sinceP ra n = sa := ⟨_, rfl⟩
      obtain ⟨sb, hsb⟩ : ∃ sb, Ow.sinceP rb n = sb := ⟨_, rfl⟩
      obtain ⟨oa, ta, hpa⟩ : ∃ oa ta, Ow.stretchP sa n = (oa, ta) := ⟨_, _, rfl⟩
      obtain ⟨ob, tb, hpb⟩ : ∃ ob tb, Ow.stretchP sb n = (ob, tb) := ⟨_, _, rfl⟩
      obtain ⟨u1, u2⟩ := Ow.since_ok HRA.out
      obtain ⟨u3, u4⟩ := Ow.since_ok HRB.out
      rw [hsa] at u1 u2
      rw [hsb] at u3 u4
      obtain ⟨q1, q2, q3⟩ := Ow.stretch_ok u1 u2 n0 hlt
      obtain ⟨q4, q5, q6⟩ := Ow.stretch_ok u3 u4 n0 hlt
      rw [hpa] at q1 q2 q3
      rw [hpb] at q4 q5 q6
      simp only at q1 q2 q3 q4 q5 q6
      have oka : Ow.okO oa := by rw [← q3 n (by omega) q1]; exact (HOK.out n).1
      have okb : Ow.okO ob := by rw [← q6 n (by omega) q4]; exact (HOK.out n).2
      obtain ⟨na, ea, hza⟩ : ∃ x y, Ow.zo oa = (x, y) := ⟨_, _, rfl⟩
      obtain ⟨nb, eb, hzb⟩ : ∃ x y, Ow.zo ob = (x, y) := ⟨_, _, rfl⟩
      have HS1 : Hid (∀ w', Below wr.heap.size wr w' → Calls Try.prog 56 #[.slice x1 ra.length d1, .int .i64 n] w' fun e w'' => ∃ a' cap', e = .returned (.slice a' sa.length cap') ∧ Cls w'' a' cap' sa ∧ (∀ x, a' = some x → ∃ y, x1 = some y ∧ y.block = x.block) ∧ Below w'.heap.size w' w'') := Lib.hid fun w' hb => by
        have := since_any x1 d1 ra n w' (HSA.out.1.later hb)
        rwa [hsa] at this
      have HS2 : Hid (∀ w', Below wr.heap.size wr w' → Calls Try.prog 56 #[.slice x2 rb.length d2, .int .i64 n] w' fun e w'' => ∃ a' cap', e = .returned (.slice a' sb.length cap') ∧ Cls w'' a' cap' sb ∧ (∀ x, a' = some x → ∃ y, x2 = some y ∧ y.block = x.block) ∧ Below w'.heap.size w' w'') := Lib.hid fun w' hb => by
        have := since_any x2 d2 rb n w' (HSB.out.1.later hb)
        rwa [hsb] at this
      have HT1 : Hid (∀ w' x d, Cls w' x d sa → Calls Try.prog 57 #[.slice x sa.length d, .int .i64 n] w' fun e w'' => e = .returned (.tuple #[.agg #[.int .i64 na, .int .i64 ea], .int .i64 ta]) ∧ Below w'.heap.size w' w'') := Lib.hid fun w' x d hc => by
        have := stretch_any x d sa n w' hc u1.1
        rwa [hpa, hza] at this
      have HT2 : Hid (∀ w' x d, Cls w' x d sb → Calls Try.prog 57 #[.slice x sb.length d, .int .i64 n] w' fun e w'' => e = .returned (.tuple #[.agg #[.int .i64 nb, .int .i64 eb], .int .i64 tb]) ∧ Below w'.heap.size w' w'') := Lib.hid fun w' x d hc => by
        have := stretch_any x d sb n w' hc u3.1
        rwa [hpb, hzb] at this
      have HNE1 : Hid (sa ≠ [] → ra ≠ []) := Lib.hid fun h1 h2 => h1 (by rw [← hsa, h2]; rfl)
      have HNE2 : Hid (sb ≠ [] → rb ≠ []) := Lib.hid fun h1 h2 => h1 (by rw [← hsb, h2]; rfl)
      have HQ3 := Lib.hid q3
      have HQ6 := Lib.hid q6
      have HU1 := Lib.hid u1
      have HU3 := Lib.hid u3
      have HEN : Hid (∀ t h, encO (⟨(n, t), h⟩, ⟨(oa, ob), oka, okb⟩) = #[.agg #[.int .i64 n, .int .i64 t], .agg #[.int .i64 na, .int .i64 ea, .int .i64 nb, .int .i64 eb]]) := Lib.hid fun t h => by simp [encO, hza, hzb]
      have hpl := (Ow.PC.len HP.out).1
      have HYY := Lib.hid (fun (t : Int) (h1 : n ≤ t) (h2 : t < 16384) (w4 : World) (hb4 : Below wr.heap.size wr w4) => hY O pre (⟨(n, t), n0, h1, h2⟩, ⟨(oa, ob), oka, okb⟩) w4 (fun k hk => ⟨(HO.out k hk).1, Nat.lt_of_lt_of_le (HO.out k hk).2 hb4.size⟩) (Nat.le_trans hsz hb4.size) (hJ _ _ _ _ HJ.out (Keeps.of_below hb4 fun k h _ => h)) (by omega))
      clear q3 q6 hpa hpb hY u1 u2 u3 u4 hsa hsb hza hzb
      obtain ⟨T, hT⟩ : ∃ T, min ta tb = T := ⟨_, rfl⟩
      have hT1 : n ≤ T ∧ T ≤ ta ∧ T ≤ tb ∧ T < 16384 := by omega
      have hT2 : min T 16383 = T := by omega
      have ewT : IntKind.i64.wrap (T + 1) = T + 1 := IntWalk.i64_in _ (by omega)
      gi_wp2_with (first
        | (refine ⟨trivial, rfl, ?_⟩; with_reducible refine (callsIn_wide.2 (HS1.out _ (Below.refl _ _))).mono ?_; rintro e w3 ⟨y1, f1, rfl, hs, hy, hb⟩; have HB3 := Lib.hid hb; have HF1 := Lib.hid (And.intro hs hy); clear hb hs hy)
        | (refine ⟨trivial, rfl, ?_⟩; with_reducible refine (callsIn_wide.2 (HS2.out _ HB3.out)).mono ?_; rintro e w4 ⟨y2, f2, rfl, hs, hy, hb⟩; have HF1b := Lib.hid (HF1.out.1.later hb); have HB4 := Lib.hid (HB3.out.trans (hb.mono HB3.out.size)); have HF2 := Lib.hid (And.intro hs hy); clear hb hs hy)
        | (refine ⟨trivial, rfl, ?_⟩; with_reducible refine (callsIn_wide.2 (HT1.out _ _ _ HF1b.out)).mono ?_; rintro e w5 ⟨rfl, hb⟩; have HB5 := Lib.hid (HB4.out.trans (hb.mono HB4.out.size)); have HF1c := Lib.hid ((HF1b.out.later hb).later ((Below.refl _ w5).alloc (Nat.le_refl _) (.cells #[.int .i64 na, .int .i64 ea] 63))); have HF2b := Lib.hid ((HF2.out.1.later hb).later ((Below.refl _ w5).alloc (Nat.le_refl _) (.cells #[.int .i64 na, .int .i64 ea] 63))); clear hb)
        | (refine ⟨trivial, rfl, ?_⟩; with_reducible refine (callsIn_wide.2 (HT2.out _ _ _ HF2b.out)).mono ?_; rintro e w6 ⟨rfl, hb⟩; have HB6 := Lib.hid ((HB5.out.alloc HB5.out.size (.cells #[.int .i64 na, .int .i64 ea] 63)).trans (hb.mono (HB5.out.alloc HB5.out.size _).size))
           have g1 : w6.cell? ⟨w5.heap.size, 0, none⟩ = some (.int .i64 na) := (hb.cell (p := ⟨w5.heap.size, 0, none⟩) (by simp)).trans (by rw [World.cell?_alloc_new]; rfl)
           have g2 : w6.cell? ⟨w5.heap.size, 1, none⟩ = some (.int .i64 ea) := (hb.cell (p := ⟨w5.heap.size, 1, none⟩) (by simp)).trans (by rw [World.cell?_alloc_new]; rfl)
           have g3 : w5.heap.size < w6.heap.size := by have := hb.size; simp at this; omega
           have HB7 := Lib.hid (HB6.out.alloc HB6.out.size (.cells #[.int .i64 nb, .int .i64 eb] 63))
           have k1 := (World.cell?_alloc_lt w6 (.cells #[.int .i64 nb, .int .i64 eb] 63) ⟨w5.heap.size, 0, none⟩ g3).trans g1
           have k2 := (World.cell?_alloc_lt w6 (.cells #[.int .i64 nb, .int .i64 eb] 63) ⟨w5.heap.size, 1, none⟩ g3).trans g2
           have HC7A : Hid (Cls (w6.alloc (.cells #[.int .i64 nb, .int .i64 eb] 63)) y1 f1 sa) := Lib.hid (((HF1c.out.later hb).later ((Below.refl _ w6).alloc (Nat.le_refl _) _)))
           have HC7B : Hid (Cls (w6.alloc (.cells #[.int .i64 nb, .int .i64 eb] 63)) y2 f2 sb) := Lib.hid (((HF2b.out.later hb).later ((Below.refl _ w6).alloc (Nat.le_refl _) _)))
           obtain ⟨fn, tmps, assign, body, hy, hR⟩ := HYY.out T hT1.1 hT1.2.2.2 _ HB7.out
           rw [HEN.out] at hy
           clear hb g1 g2))
      all_goals first | (have hTa : T = ta := by omega
                         subst hTa) | (have hTb : T = tb := by omega
                                       subst hTb)
      all_goals gi_wp2
      all_goals rw [hy]
      all_goals refine ⟨fun h => (by simp [Fence.wide] at h), hR.mono ?_⟩
      all_goals
        rintro e W3 ⟨hk3, O', hg3, (⟨rfl, hJ3⟩ | ⟨rfl, hJx3⟩)⟩
        · have HK3 := Lib.hid hk3
          have HG3 := Lib.hid hg3
          have HJ3 := Lib.hid hJ3
          have s3 := hk3.size
          have s4 := HB7.out.size
          have hdt : ∀ k, Dt k → RoundS Dt Pv W.heap.size O k := fun k h => .inl h
          have HF3 : Hid (Cls W3 y1 f1 sa ∧ (sa ≠ [] → ∀ y, y1 = some y → Dt y.block)) := by
            have hd : sa ≠ [] → ∀ y, y1 = some y → Dt y.block := fun hne y hy => by
              obtain ⟨z, h1, h2⟩ := HF1.out.2 y hy
              rw [← h2]; exact HSA.out.2 (HNE1.out hne) z h1
            refine Lib.hid ⟨Cls.keeps (S := Dt) ?_ hd (hk3.mono fun k _ h => hdt k h), hd⟩
            exact HC7A.out
          have HF4 : Hid (Cls W3 y2 f2 sb ∧ (sb ≠ [] → ∀ y, y2 = some y → Dt y.block)) := by
            have hd : sb ≠ [] → ∀ y, y2 = some y → Dt y.block := fun hne y hy => by
              obtain ⟨z, h1, h2⟩ := HF2.out.2 y hy
              rw [← h2]; exact HSB.out.2 (HNE2.out hne) z h1
            refine Lib.hid ⟨Cls.keeps (S := Dt) ?_ hd (hk3.mono fun k _ h => hdt k h), hd⟩
            exact HC7B.out
          have hO3 : ∀ k, O' k → W.heap.size ≤ k ∧ k < W3.heap.size := fun k hk => ⟨by
            rcases (HG3.out k hk).2 with h | h
            · exact (HO.out k h).1
            · omega, (HG3.out k hk).1⟩
          have HO3 := Lib.hid hO3
          clear hk3 hg3 hJ3 hy hR hdt hO3 k1 k2 g3
          gi_wp2
          go_roundw
          case rel =>
            refine ⟨sa, sb, y1, y2, f1, f2, T + 1, pre ++ [(⟨(n, T), n0, hT1.1, hT1.2.2.2⟩, ⟨(oa, ob), oka, okb⟩)], O', rfl, rfl, by first | rfl | simp, by omega, by omega, Lib.hid ?_, Lib.hid (HU1.out.later (by omega)), Lib.hid (HU3.out.later (by omega)), HF3, HF4, HO3, HJ3, by omega⟩
            exact Ow.PC.snoc (⟨(n, T), n0, hT1.1, hT1.2.2.2⟩, ⟨(oa, ob), oka, okb⟩) HP.out fun k h1 h2 => ⟨HQ3.out k h1 (Int.le_trans h2 hT1.2.1), HQ6.out k h1 (Int.le_trans h2 hT1.2.2.1)⟩
          case measure => simp [intOf]; omega
        · exact (HX.out _ _ _ hJx3).elim
    · obtain rfl : n = 16384 := by omega
      gi_wp2
      go_end0
      first
        | exact ⟨⟨_, rfl⟩, hsz, O, HO.out, .inl ⟨pre, HP.out, HJ.out⟩⟩
        | exact ⟨⟨_, rfl⟩, hsz, O, HO.out, pre, HP.out, HJ.out⟩
end Go.Proofs.Ytchladbjhodkoaa
