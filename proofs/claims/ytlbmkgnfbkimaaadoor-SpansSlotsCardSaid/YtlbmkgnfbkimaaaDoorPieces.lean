/- The contract of spans.pieces: the iterator gives pieces side by side from slot 0 to the last. -/
import Derived.Test.YtlbmkgnfbkimaaaDoorStretch
import Derived.Test.YtlbmkgnfbkimaaaDoorCollect
import Derived.Deep.RegionHeld3
namespace Go.Proofs.YtlbmkgnfbkimaaaDoor
open Go.RowKit Go.Shelf
attribute [local go_sem] Oper.semAt_some

theorem row_cap {w : World} {B n : Nat} {e : TypeId} {sz : Nat} {v : Value} {xs : List Value} (h : w.ownsRow B e sz v n xs) : ∀ a m c, v = .slice a m c → c ≤ 9223372036854775807 := by
  intro a m c hv
  rcases h.2 with ⟨rfl, _⟩ | ⟨g, cap, cur, rfl, _, _, _, hc, _⟩
  · cases hv; omega
  · cases hv; exact hc

set_option maxHeartbeats 1000000 in
/-- spans.Norm, and where its list lies. -/
theorem norm_own (a : Option Addr) (cap : Nat) (l : List Sp.S) (w : World) (hl : l.length ≤ 100000) (hS : Spans w a cap l) :
    Calls Tryd.prog 14 #[.slice a l.length cap] w fun e W' => ∃ a' cap', e = .returned (.slice a' (Sp.mixS 0 l []).length cap') ∧ Spans W' a' cap' (Sp.mixS 0 l []) ∧ (∀ x, a' = some x → w.heap.size ≤ x.block ∧ x.block < W'.heap.size) ∧ cap' ≤ 9223372036854775807 ∧ Below w.heap.size w W' := by
  refine (callsIn_wide (n := 0)).1 ?_
  have hr := runs_any a cap l w (by omega) hS
  clear hS
  refine callsIn_of_wp Tryd.func14 rfl trivial ?_ rfl
  simp only [Tryd.ntmps14, List.size_toArray, List.length_cons, List.length_nil, Nat.reduceAdd, Nat.reduceSub, Array.replicate_succ, Array.replicate_zero, List.push_toArray, List.append_toArray, List.nil_append, List.cons_append]
  gi_wp2_with (refine ⟨trivial, rfl, ?_⟩; refine hr.mono ?_; rintro e w2 ⟨v, rfl, Bp, rfl, hB2, hseq⟩; have HB2 := Lib.hid hB2; have HSQ := Lib.hid hseq; clear hB2 hseq)
  have hc := collect_any 60 #[.pointer (some ⟨Bp, 0, none⟩)] (enters_of Tryd.func60 (by kernel_rfl) rfl) (fun k => w.heap.size ≤ k ∧ k < w2.heap.size) _ l.length w2 w2 (by omega)
    (HSQ.out (fun k => w.heap.size ≤ k ∧ k < w2.heap.size) (fun _ => False) (fun k h1 h2 => ⟨h1, h2⟩) (fun k h => h.2) (fun k h => h.elim)) (Below.refl _ _) (fun k h => h.2)
  gi_wp2_with (refine ⟨trivial, rfl, ?_⟩; refine hc.mono ?_; rintro e w3 ⟨v, ys, hS, rfl, hrow, hnil, hB⟩; have HR := Lib.hid (And.intro hS (And.intro hrow hB)); clear hS hrow hnil hB)
  go_ret
  obtain ⟨hS, hrow, hB⟩ := HR.out
  have hlen : ys.length = (Sp.bare ys).length := by simp
  have hm : (Sp.bare ys).length ≤ 300000 := by rw [hS]; exact mixS_len 0 l [] (by simpa using hl)
  rw [hlen] at hrow
  have hcap := row_cap hrow
  obtain ⟨a', cap', rfl, hsp, hbl⟩ := spans_of_row hrow (by omega) (bare_ints ys)
  have hsz := HB2.out.size
  rw [hS] at hsp ⊢
  refine ⟨a', cap', rfl, hsp, fun x hx => ?_, hcap _ _ _ rfl, HB2.out.trans (hB.mono HB2.out.size)⟩
  subst hx
  have := hbl x.block rfl
  omega

/-- a piece as yield takes it. -/
def encP (x : Sp.PV) : Array Value := #[.agg #[.int .i64 x.1.1.1, .int .i64 x.1.1.2], .agg #[.bool x.2.1, .bool x.2.2]]

/-- a list that the iterator itself holds. -/
def OSp (B : Nat) (O : Nat → Prop) (w : World) (a : Option Addr) (cap : Nat) (l : List Sp.S) : Prop :=
  Spans w a cap l ∧ cap ≤ 9223372036854775807 ∧ ∀ x, a = some x → B ≤ x.block ∧ ¬ O x.block ∧ x.block < w.heap.size

theorem spans_keeps {S : Nat → Prop} {w w' : World} {a : Option Addr} {cap : Nat} {l : List Sp.S} (h : Spans w a cap l) (ha : ∀ x, a = some x → S x.block) (hk : Keeps S w w') : Spans w' a cap l := by
  obtain ⟨h0, h1, h2, h3⟩ := h
  refine ⟨h0, h1, h2, ?_⟩
  rcases h3 with h3 | ⟨b, off, rfl, hlt, hc⟩
  · exact .inl h3
  · have hb := ha _ rfl
    exact .inr ⟨b, off, rfl, Nat.lt_of_lt_of_le hlt hk.size, fun k h => by
      rw [hk.cell (p := ⟨b, off + k * 2, none⟩) hlt hb, hk.cell (p := ⟨b, off + k * 2 + 1, none⟩) hlt hb]; exact hc k h⟩

theorem OSp.later {B : Nat} {O : Nat → Prop} {w w' : World} {a : Option Addr} {cap : Nat} {l : List Sp.S} (h : OSp B O w a cap l) (hb : Below w.heap.size w w') : OSp B O w' a cap l :=
  ⟨h.1.later hb, h.2.1, fun x hx => ⟨(h.2.2 x hx).1, (h.2.2 x hx).2.1, Nat.lt_of_lt_of_le (h.2.2 x hx).2.2 hb.size⟩⟩

theorem OSp.round {B : Nat} {O O' Dt Pv : Nat → Prop} {w w' : World} {a : Option Addr} {cap : Nat} {l : List Sp.S} (h : OSp B O w a cap l) (hk : Keeps (RoundS Dt Pv B O) w w') (hg : Grows O O' w w') : OSp B O' w' a cap l :=
  ⟨spans_keeps h.1 (fun x hx => .inr (.inr ⟨(h.2.2 x hx).1, (h.2.2 x hx).2.1⟩)) hk, h.2.1, fun x hx => ⟨(h.2.2 x hx).1, fun ho => by
    rcases (hg _ ho).2 with h' | h'
    · exact (h.2.2 x hx).2.1 h'
    · have := (h.2.2 x hx).2.2; omega, Nat.lt_of_lt_of_le (h.2.2 x hx).2.2 hk.size⟩⟩

set_option maxHeartbeats 1000000 in
theorem pieces_any (sa sb : Value) (w : World) (hsa : ∃ a n c, sa = .slice a n c) (hsb : ∃ a n c, sb = .slice a n c) :
    CallsIn Fence.wide 0 Tryd.prog 55 #[sa, sb] w fun e w' =>
      e = .returned (.func (.func 67) #[] #[.pointer (some ⟨w.heap.size, 0, none⟩), .pointer (some ⟨w.heap.size + 1, 0, none⟩)]) ∧ w' = (w.alloc (.cells #[sa] 22)).alloc (.cells #[sb] 22) := by
  obtain ⟨a, n, c, rfl⟩ := hsa
  obtain ⟨a', n', c', rfl⟩ := hsb
  refine callsIn_of_wp Tryd.func55 rfl trivial ?_ rfl
  simp only [Tryd.ntmps55, List.size_toArray, List.length_cons, List.length_nil, Nat.reduceAdd, Nat.reduceSub, Array.replicate_succ, Array.replicate_zero, List.push_toArray, List.append_toArray, List.nil_append, List.cons_append]
  gi_wp2
  go_ret
  exact ⟨by simp, rfl⟩

set_option maxRecDepth 100000 in
set_option maxHeartbeats 4000000 in
theorem pieces_seq (Ba Bb : Nat) (a1 a2 : Option Addr) (cap1 cap2 : Nat) (la lb : List Sp.S) (w : World) (hla : la.length ≤ 100000) (hlb : lb.length ≤ 100000) (hBa : Ba < w.heap.size) (hBb : Bb < w.heap.size)
    (hbxa : w.cell? ⟨Ba, 0, none⟩ = some (.slice a1 la.length cap1)) (hbxb : w.cell? ⟨Bb, 0, none⟩ = some (.slice a2 lb.length cap2)) (hA : Spans w a1 cap1 la) (hB : Spans w a2 cap2 lb) (Dt Pv : Nat → Prop) :
    SeqT false Tryd.prog 67 #[.pointer (some ⟨Ba, 0, none⟩), .pointer (some ⟨Bb, 0, none⟩)] encP Dt Pv (fun xs => Sp.PC (Sp.hasB (Sp.mixS 0 la [])) (Sp.hasB (Sp.mixS 0 lb [])) xs 16384) (fun _ => False) 16384 w := by
  intro l J Jx W hW hJ _ hst hY h0
  have HX : Hid (∀ O s A, ¬ Jx O s A) := Lib.hid (hst rfl)
  clear hst
  have hx1 := (hW.cell (p := ⟨Ba, 0, none⟩) hBa).trans hbxa
  have hx2 := (hW.cell (p := ⟨Bb, 0, none⟩) hBb).trans hbxb
  have hBaW : Ba < W.heap.size := Nat.lt_of_lt_of_le hBa hW.size
  have hBbW : Bb < W.heap.size := Nat.lt_of_lt_of_le hBb hW.size
  have HA := Lib.hid (fun w' (hb : Below W.heap.size W w') => norm_own a1 cap1 la w' hla ((hA.later hW).later hb))
  have HB := Lib.hid (fun w' (hb : Below W.heap.size W w') => norm_own a2 cap2 lb w' hlb ((hB.later hW).later hb))
  have HVA := Lib.hid (Sp.Rest.start _ (Sp.mixS_spec 0 la []).1)
  have HVB := Lib.hid (Sp.Rest.start _ (Sp.mixS_spec 0 lb []).1)
  clear hA hB hbxa hbxb hBa hBb
  generalize Sp.mixS 0 la [] = na at *
  generalize Sp.mixS 0 lb [] = nb at *
  refine callsIn_of_wp Tryd.func67 rfl trivial ?_ rfl
  simp only [Tryd.ntmps67, List.size_toArray, List.length_cons, List.length_nil, Nat.reduceAdd, Nat.reduceSub, Array.replicate_succ, Array.replicate_zero, List.push_toArray, List.append_toArray, List.nil_append, List.cons_append]
  gi_wp2
  refine wpIn_wide.2 ?_
  go_region_held3 (fun w' => w'.cell? ⟨Ba, 0, none⟩ = some (.slice a1 la.length cap1) ∧ w'.cell? ⟨Bb, 0, none⟩ = some (.slice a2 lb.length cap2))
    (first
      | go_keep
      | (go_split_ands
         refine ⟨?_, ?_⟩
         · (first | exact (HBB2.out.cell (p := ⟨Ba, 0, none⟩) hBaW).trans hx1 | exact (HBB1.out.cell (p := ⟨Ba, 0, none⟩) hBaW).trans hx1)
         · (first | exact (HBB2.out.cell (p := ⟨Bb, 0, none⟩) hBbW).trans hx2 | exact (HBB1.out.cell (p := ⟨Bb, 0, none⟩) hBbW).trans hx2)))
    (first
      | (go_at_call 14; refine (HA.out _ ((Below.refl _ _).drew)).mono ?_; rintro e w1 ⟨a3, c3, rfl, hs3, ho3, hc3, hb3⟩; have HBB1 : Hid (Below W.heap.size W w1) := Lib.hid (((Below.refl _ W).drew).trans (hb3.mono (Nat.le_refl _))); have HS3B := Lib.hid hb3; have HS3 := Lib.hid hs3; have HO3 := Lib.hid ho3; have HC3 := Lib.hid hc3; clear hs3 ho3 hc3 hb3)
      | (go_at_call 14; refine (HB.out _ HBB1.out).mono ?_; rintro e w2 ⟨a4, c4, rfl, hs4, ho4, hc4, hb4⟩; have HBB2 : Hid (Below W.heap.size W w2) := Lib.hid (HBB1.out.trans (hb4.mono HBB1.out.size)); have HS4B := Lib.hid hb4; have HS4 := Lib.hid hs4; have HO4 := Lib.hid ho4; have HC4 := Lib.hid hc4; clear hs4 ho4 hc4 hb4))
  have oa : OSp W.heap.size (fun _ => False) w2 a3 c3 na := ⟨HS3.out.later HS4B.out, HC3.out, fun x hx => ⟨(HO3.out x hx).1, id, Nat.lt_of_lt_of_le (HO3.out x hx).2 HS4B.out.size⟩⟩
  have ob : OSp W.heap.size (fun _ => False) w2 a4 c4 nb := ⟨HS4.out, HC4.out, fun x hx => ⟨Nat.le_trans HBB1.out.size (HO4.out x hx).1, id, (HO4.out x hx).2⟩⟩
  have HOA0 := Lib.hid oa
  have HOB0 := Lib.hid ob
  clear oa ob HS3 HS4 HC3 HC4 HO3 HO4 HS3B HS4B
  gi_wp2
  gi_loopw [4, 5, 6] (fun va vb i wr => ∃ (ra rb : List Sp.S) (x1 x2 : Option Addr) (d1 d2 : Nat) (n : Int) (pre : List Sp.PV) (O : Nat → Prop), va = .slice x1 ra.length d1 ∧ vb = .slice x2 rb.length d2 ∧ i = .int .i64 n ∧ 0 ≤ n ∧ n ≤ 16384 ∧ Hid (Sp.PC (Sp.hasB na) (Sp.hasB nb) pre n) ∧ Hid (Sp.Rest (Sp.hasB na) ra n) ∧ Hid (Sp.Rest (Sp.hasB nb) rb n) ∧ Hid (OSp W.heap.size O wr x1 d1 ra) ∧ Hid (OSp W.heap.size O wr x2 d2 rb) ∧ Hid (∀ k, O k → W.heap.size ≤ k ∧ k < wr.heap.size) ∧ Hid (J O pre wr) ∧ W.heap.size ≤ wr.heap.size)
    (fun _ _ i _ => 16384 - (intOf i).toNat)
  case atStart => exact ⟨na, nb, a3, a4, c3, c4, 0, [], fun _ => False, rfl, rfl, rfl, by omega, by omega, Lib.hid .nil, HVA, HVB, HOA0, HOB0, Lib.hid (fun _ h => h.elim), Lib.hid (hJ _ _ _ _ h0 (Keeps.of_below HBB2.out fun k h _ => h)), HBB2.out.size⟩
  case round =>
    obtain ⟨ra, rb, x1, x2, d1, d2, n, pre, O, rfl, rfl, rfl, n0, n1, HP, HRA, HRB, HSA, HSB, HO, HJ, hsz⟩ := hrel
    by_cases hlt : n < 16384
    · obtain ⟨ia, ta, hpa⟩ : ∃ ia ta, Sp.stretchP ra n = (ia, ta) := ⟨_, _, rfl⟩
      obtain ⟨ib, tb, hpb⟩ : ∃ ib tb, Sp.stretchP rb n = (ib, tb) := ⟨_, _, rfl⟩
      obtain ⟨q1, q2, q3⟩ := Sp.stretch_ok HRA.out n0 hlt
      obtain ⟨q4, q5, q6⟩ := Sp.stretch_ok HRB.out n0 hlt
      rw [hpa] at q1 q2 q3
      rw [hpb] at q4 q5 q6
      have HST1 : Hid (∀ w', Below wr.heap.size wr w' → Calls Tryd.prog 68 #[.slice x1 ra.length d1, .int .i64 n] w' fun e w'' => e = .returned (.tuple #[.bool ia, .int .i64 ta]) ∧ Below w'.heap.size w' w'') := Lib.hid fun w' hb => by
        have := stretch_any x1 d1 ra n w' (HSA.out.1.later hb) HRA.out.1
        rwa [hpa] at this
      have HST2 : Hid (∀ w', Below wr.heap.size wr w' → Calls Tryd.prog 68 #[.slice x2 rb.length d2, .int .i64 n] w' fun e w'' => e = .returned (.tuple #[.bool ib, .int .i64 tb]) ∧ Below w'.heap.size w' w'') := Lib.hid fun w' hb => by
        have := stretch_any x2 d2 rb n w' (HSB.out.1.later hb) HRB.out.1
        rwa [hpb] at this
      have HSA2 := Lib.hid q3
      have HSB2 := Lib.hid q6
      have HPA := Lib.hid hpa
      have HPB := Lib.hid hpb
      have hpl := (Sp.PC.len HP.out).1
      have HYY := Lib.hid (fun (t : Int) (h1 : n ≤ t) (h2 : t < 16384) (w4 : World) (hb4 : Below wr.heap.size wr w4) => hY O pre (⟨(n, t), n0, h1, h2⟩, ia, ib) w4 (fun k hk => ⟨(HO.out k hk).1, Nat.lt_of_lt_of_le (HO.out k hk).2 hb4.size⟩) (Nat.le_trans hsz hb4.size) (hJ _ _ _ _ HJ.out (Keeps.of_below hb4 fun k h _ => h)) (by omega))
      simp only at q1 q2 q4 q5
      clear q3 q6 hpa hpb hY
      have hT : n ≤ min ta tb ∧ min ta tb ≤ ta ∧ min ta tb ≤ tb ∧ min ta tb < 16384 := by omega
      have ewT : IntKind.i64.wrap (min ta tb + 1) = min ta tb + 1 := IntWalk.i64_in _ (by omega)
      gi_wp2_with (first
        | (refine ⟨trivial, rfl, ?_⟩; with_reducible refine (callsIn_wide.2 (HST1.out _ (Below.refl _ _))).mono ?_; rintro e w3 ⟨rfl, hb⟩; have HB3 := Lib.hid hb; clear hb)
        | (refine ⟨trivial, rfl, ?_⟩; with_reducible refine (callsIn_wide.2 (HST2.out _ HB3.out)).mono ?_; rintro e w4 ⟨rfl, hb⟩; have HB4 := Lib.hid (HB3.out.trans (hb.mono HB3.out.size)); clear hb
           obtain ⟨fn, tmps, assign, body, hy, hR⟩ := HYY.out (min ta tb) hT.1 hT.2.2.2 w4 HB4.out
           unfold encP at hy))
      refine ⟨rfl, hR.mono ?_⟩
      rintro e W3 ⟨hk3, O', hg3, (⟨rfl, hJ3⟩ | ⟨rfl, hJx3⟩)⟩
      · have HOA := Lib.hid ((HSA.out.later HB4.out).round hk3 hg3)
        have HOB := Lib.hid ((HSB.out.later HB4.out).round hk3 hg3)
        have HK3 := Lib.hid hk3
        have HG3 := Lib.hid hg3
        have HJ3 := Lib.hid hJ3
        have s3 := hk3.size
        have s4 := HB4.out.size
        have HA1 := Lib.hid HOA.out.1
        have HB1 := Lib.hid HOB.out.1
        have HA2 := HOA.out.2.1
        have HB2 := HOB.out.2.1
        clear hk3 hg3 hJ3 hy hR
        gi_wp2_with (first
          | (refine ⟨trivial, rfl, ?_⟩; with_reducible refine (callsIn_wide.2 (behind_any x1 d1 ra (min ta tb) _ HA2 HA1.out)).mono ?_; rintro e w5 ⟨y1, f1, rfl, hf1, hs1, hy1, hb⟩; have HB5 := Lib.hid hb; have HF1 := Lib.hid (And.intro hf1 (And.intro hs1 hy1)); clear hb hf1 hs1 hy1)
          | (refine ⟨trivial, rfl, ?_⟩; with_reducible refine (callsIn_wide.2 (behind_any x2 d2 rb (min ta tb) _ HB2 (HB1.out.later HB5.out))).mono ?_; rintro e w6 ⟨y2, f2, rfl, hf2, hs2, hy2, hb⟩; have HB6 := Lib.hid hb; have HF2 := Lib.hid (And.intro hf2 (And.intro hs2 hy2)); clear hb hf2 hs2 hy2))
        go_roundw
        case rel =>
          have hB6 := HB5.out.trans (HB6.out.mono HB5.out.size)
          have s6 := hB6.size
          have hO3 : ∀ k, O' k → W.heap.size ≤ k ∧ k < W3.heap.size := fun k hk => ⟨by
            rcases (HG3.out k hk).2 with h | h
            · exact (HO.out k h).1
            · omega, (HG3.out k hk).1⟩
          refine ⟨Sp.behindP ra (min ta tb), Sp.behindP rb (min ta tb), y1, y2, f1, f2, min ta tb + 1, pre ++ [(⟨(n, min ta tb), n0, hT.1, hT.2.2.2⟩, ia, ib)], O', rfl, rfl, by first | rfl | simp, by omega, by omega, Lib.hid ?_, Lib.hid ?_, Lib.hid ?_, Lib.hid ?_, Lib.hid ?_, Lib.hid ?_, Lib.hid ?_, by omega⟩
          · exact Sp.PC.snoc (⟨(n, min ta tb), n0, hT.1, hT.2.2.2⟩, ia, ib) HP.out fun k h1 h2 => ⟨HSA2.out k h1 (Int.le_trans h2 hT.2.1), HSB2.out k h1 (Int.le_trans h2 hT.2.2.1)⟩
          · exact Sp.behind_ok HRA.out hT.1 (by rw [HPA.out]; exact hT.2.1)
          · exact Sp.behind_ok HRB.out hT.1 (by rw [HPB.out]; exact hT.2.2.1)
          · refine ⟨HF1.out.2.1.later HB6.out, HF1.out.1, fun x hx => ?_⟩
            obtain ⟨z, hz, hzb⟩ := HF1.out.2.2 x hx
            obtain ⟨g1, g2, g3⟩ := HOA.out.2.2 z hz
            rw [hzb] at g1 g2 g3
            exact ⟨g1, g2, by omega⟩
          · refine ⟨HF2.out.2.1, HF2.out.1, fun x hx => ?_⟩
            obtain ⟨z, hz, hzb⟩ := HF2.out.2.2 x hx
            obtain ⟨g1, g2, g3⟩ := HOB.out.2.2 z hz
            rw [hzb] at g1 g2 g3
            exact ⟨g1, g2, by omega⟩
          · intro k hk
            have := hO3 k hk
            omega
          · exact hJ _ _ _ _ HJ3.out (Keeps.of_below hB6 fun k h _ => h)
        case measure => simp [intOf]; omega
      · exact (HX.out _ _ _ hJx3).elim
    · obtain rfl : n = 16384 := by omega
      gi_wp2
      go_end0
      first
        | exact ⟨⟨_, rfl⟩, hsz, O, HO.out, .inl ⟨pre, HP.out, HJ.out⟩⟩
        | exact ⟨⟨_, rfl⟩, hsz, O, HO.out, pre, HP.out, HJ.out⟩
end Go.Proofs.YtlbmkgnfbkimaaaDoor
