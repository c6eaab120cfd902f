/- The walk of SpansSlots. -/
import Derived.Test.YtlbmkgnfbkimaaaDoorSlotsLoop
import Derived.Test.YtlbmkgnfbkimaaaDoorSpansLawsWalk
import Derived.Test.YtlbmkgnfbkimaaaDoorDevHas
namespace Go.Proofs.YtlbmkgnfbkimaaaDoor
open Go.RowKit Go.Shelf
attribute [local go_sem] Oper.semAt_some

theorem infoBool : (Tryd.prog.info? 4).map (fun i => (i.zero, i.size, i.bytes)) = some (some (.bool false), 1, 1) := by kernel_rfl

theorem make_in (w : World) : ∃ cs, (Instr.makeSlice 42 (.int .i64 202) (.int .i64 202)).run Tryd.prog w = .ok (.slice (some ⟨w.heap.size, 0, none⟩) 202 202) (w.alloc (.cells cs 4)) ∧ Marks (w.alloc (.cells cs 4)) w.heap.size [] := by
  obtain ⟨i, hi, hz, hs, hb⟩ := info_parts infoBool
  have h := run_makeSlice (P := Tryd.prog) (w := w) 42 4 i (.bool false) Tryd.underlying42 hi hz .i64 .i64 202 202 (by decide) (by decide) (by rw [hs]; decide) (by rw [hb]; decide) (by decide)
  rw [hs] at h
  refine ⟨_, h, _, World.alloc_heap_new _ _, by simp [madeCells, Value.cells], fun j hj => ?_⟩
  simp [madeCells, Value.cells, hj, Sp.hasB, Nat.mod_one]

open Classical in
set_option maxRecDepth 100000 in
set_option maxHeartbeats 8000000 in
theorem spansSlots_some (a : Option Addr) (cap : Nat) (ns : List Int) (at_ : Int) (w : World) (hl : ns.length ≤ 60) (hint : ∀ n ∈ ns, 0 ≤ n ∧ n ≤ 65535) (hc : ns = [] ∨ ∃ b off, a = some ⟨b, off, none⟩ ∧ b < w.heap.size ∧ ∀ k, k < ns.length → w.cell? ⟨b, off + k, none⟩ = some (.int .u16 (ns.getD k 0))) (hat : 0 ≤ at_ ∧ at_ ≤ 65535) (ht : Tab w) :
    Calls Tryd.prog 8 #[.slice a ns.length cap, .int .u16 at_] w fun e w' => e = .returned (.bool true) ∧ Below w.heap.size w w' := by
  have HC := Lib.hid hc
  have HI := Lib.hid hint
  have HT := Lib.hid ht
  obtain ⟨t0, t1⟩ := hat
  clear hc hint ht
  obtain ⟨i0, hi, hz0, hz1, hz2⟩ := info_parts info39
  go_enter Tryd.func8, Tryd.ntmps8
  obtain ⟨cs0, hmk, hmarks⟩ := make_in w
  obtain ⟨w1, hw1⟩ : ∃ w1, w.alloc (.cells cs0 4) = w1 := ⟨_, rfl⟩
  rw [hw1] at hmk hmarks
  have hB1 : Below w.heap.size w w1 := by rw [← hw1]; exact (Below.refl _ w).alloc (Nat.le_refl _) _
  have hs1 : w1.heap.size = w.heap.size + 1 := by rw [← hw1]; simp
  have HM1 := Lib.hid hmarks
  have HB1 := Lib.hid hB1
  clear hw1 hmarks hB1
  go_upto_region 5 with (fail)
  go_wp2
  go_loopw [5, 7] (fun v i wr => ∃ (n : Nat) (sv : Value), n ≤ ns.length ∧ i = .int .i64 n ∧ sv = v ∧ Hid (wr.ownsRow (w.heap.size + 1) 39 2 sv n (flat2 (slTo ns n))) ∧ Hid (Marks wr w.heap.size (slTo ns n)) ∧ Hid (Below w.heap.size w wr)) (fun _ i _ => ns.length - (intOf i).toNat)
  case atStart => exact ⟨0, _, Nat.zero_le _, rfl, rfl, Lib.hid (World.ownsRow_nil _ _ _ _), HM1, HB1⟩
  case round =>
    obtain ⟨n, sv, hn, rfl, rfl, HO, HM, HB⟩ := hrel
    by_cases hlt : n < ns.length
    · obtain ⟨b, off, rfl, hb, hc⟩ := HC.out.resolve_left (by rintro rfl; simp at hlt)
      have c1 := (HB.out.cell (p := ⟨b, off + n, none⟩) hb).trans (hc n hlt)
      clear hc
      have m1 : ns.getD n 0 ∈ ns := by simp [List.getD, hlt]
      obtain ⟨i1, i2⟩ := HI.out _ m1
      have HT2 := Lib.hid (show slTo ns (n + 1) = slTo ns n ++ [(ns.getD n 0 % 200, ns.getD n 0 % 200)] from rfl)
      clear m1
      generalize ns.getD n 0 = x at c1 i1 i2 HT2
      have wx : IntKind.i64.wrap x = x := IntWalk.i64_in _ (by omega)
      obtain ⟨k, hk⟩ : ∃ k : Nat, x % 200 = (k : Int) := ⟨(x % 200).toNat, by omega⟩
      have hk2 : k < 200 := by omega
      have hkn : (x % 200 + 1).toNat = k + 1 := by omega
      obtain ⟨d1, d2⟩ := HM.out.cell (j := k + 1) (by omega)
      have ew : IntKind.i64.wrap (x % 200 + 1) = x % 200 + 1 := IntWalk.i64_in _ (by omega)
      have ewn : IntKind.i64.wrap ((n : Int) + 1) = (n : Int) + 1 := IntWalk.i64_in _ (by omega)
      go_upto_region 10 with (fail)
      obtain ⟨wq, hwq⟩ : ∃ wq, wr.setCell ⟨w.heap.size, k + 1, none⟩ (.bool true) = wq := ⟨_, rfl⟩
      rw [hwq]
      have hkq : Keeps (fun j => j ≠ w.heap.size) wr wq := by rw [← hwq]; exact (Keeps.refl _ _).setCell (.inr (by simp)) _
      have hOq : wq.ownsRow (w.heap.size + 1) 39 2 sv n (flat2 (slTo ns n)) := owns_kept HO.out hkq (fun g hg => by have := (HO.out.lt g hg).1; omega)
      have hMq : Marks wq w.heap.size (slTo ns (n + 1)) := by rw [HT2.out, hk, ← hwq]; exact HM.out.set hk2
      have hBq : Below w.heap.size w wq := by rw [← hwq]; exact HB.out.setCell (p := ⟨w.heap.size, k + 1, none⟩) (Nat.le_refl _) _
      have hbq : w.heap.size < wq.heap.size := by
        obtain ⟨cs, h1, -⟩ := hMq
        exact (Array.getElem?_eq_some_iff.1 h1).1
      have HOq := Lib.hid hOq
      have HMq := Lib.hid hMq
      have HBq := Lib.hid hBq
      have HKn := Lib.hid hk
      clear hwq hkq hOq hMq hBq d1 d2 HO HM HB c1 hk
      go_wp2_with (at_builtin; refine wpList_append_own _ rfl (.tmp 35) (.tmp 39) 22 rfl (w.heap.size + 1) 39 i0 (.agg #[.int .i64 0, .int .i64 0]) 2 16 Tryd.underlying22 hi hz0 hz1 hz2 rfl (by decide) _ _ _ rfl (HOq.out.alloc _) ⟨wq.heap.size, 0, none⟩ 1 1 [.int .i64 (x % 200), .int .i64 (x % 200)] rfl rfl ?c1 ?c2 ?c3 ?c4 ?c5 ?_)
      case c1 => exact pair_news _ _ rfl _ _ _
      case c2 => intro u hu; simp at hu; subst hu; rfl
      case c3 => unfold maxLen; simp; omega
      case c4 => omega
      case c5 => simp; omega
      intro v' w2 hown1 hgrow hiff
      have hk2' : Keeps (fun j => some j ≠ sv.ownBlock) wq w2 := ((Keeps.refl _ wq).alloc _).trans (Keeps.of_grown hgrow fun r e h => h e.symm)
      have hM2 : Marks w2 w.heap.size (slTo ns (n + 1)) := HMq.out.keep (hk2'.block w.heap.size hbq (fun e => by have := (HOq.out.lt _ e.symm).1; omega))
      have hB2 : Below w.heap.size w w2 := HBq.out.trans (hk2'.below (Nat.le_of_lt hbq) (fun j hj e => by have := (HOq.out.lt j e.symm).1; omega))
      have hO2 : w2.ownsRow (w.heap.size + 1) 39 2 v' (n + 1) (flat2 (slTo ns (n + 1))) := by rw [HT2.out, flat2_snoc]; exact hown1
      have HO2 := Lib.hid hO2
      have HM2 := Lib.hid hM2
      have HB2 := Lib.hid hB2
      clear hown1 hgrow hiff hk2' hM2 hB2 hO2
      go_wp2
      go_roundw
      case rel => exact ⟨n + 1, _, by omega, by go_num, rfl, HO2, HM2, HB2⟩
      case measure => simp [intOf]; omega
    · obtain rfl : n = ns.length := by omega
      have hlen := slTo_len ns ns.length
      have hok := slTo_ok HI.out ns.length (Nat.le_refl _)
      generalize slTo ns ns.length = L at *
      have ho := HO.out
      rw [← hlen] at ho
      obtain ⟨a1, c1, rfl, hsp, -⟩ := spans_of_row ho (by omega) (fun s hs => by have := hok s hs; omega)
      have HS := Lib.hid hsp
      have HOK := Lib.hid hok
      have hll : L.length ≤ 60 := by omega
      have hms := mixS_short 0 L []
      simp only [List.length_nil, Nat.add_zero] at hms
      clear ho hsp hok HO hlen
      go_wp2_with fail
      refine (callsIn_wide.1 (norm_any a1 c1 L _ (by omega) HS.out)).mono ?_
      rintro e w3 ⟨a2, c2, rfl, hs, hb3⟩
      have HN := Lib.hid hs
      have HS3 := Lib.hid (HS.out.later hb3)
      have HB3 := Lib.hid (HB.out.trans (hb3.mono HB.out.size))
      have hM3 : Marks w3 w.heap.size L := HM.out.keep (hb3.block _ (by
        obtain ⟨cs, h1, -⟩ := HM.out
        exact (Array.getElem?_eq_some_iff.1 h1).1))
      have HM3 := Lib.hid hM3
      clear hs hb3 hM3 HM HB HS
      have hcnt : ∀ m : Nat, 0 ≤ Sp.cnt (Sp.hasB L) m ∧ Sp.cnt (Sp.hasB L) m ≤ m := Sp.cnt_bound _
      have hcn2 : ∀ m : Nat, 0 ≤ Sp.cnt (Sp.fst L) m ∧ Sp.cnt (Sp.fst L) m ≤ m := Sp.cnt_bound _
      have HC1 := Lib.hid hcnt
      have HC2 := Lib.hid hcn2
      clear hcnt hcn2
      go_wp2
      go_loop [10, 11, 12] (fun c e i => ∃ m : Nat, m ≤ 201 ∧ i = .int .i64 ((m : Int) + 1) ∧ c = .int .i64 (Sp.cnt (Sp.hasB L) m) ∧ e = .int .i64 (Sp.cnt (Sp.fst L) m)) (fun _ _ i => 202 - (intOf i).toNat)
      case atStart => exact ⟨0, by omega, rfl, rfl, rfl⟩
      case round =>
        obtain ⟨m, hm, rfl, rfl, rfl⟩ := hrel
        by_cases hlt2 : m < 201
        · have q1 := (HM3.out.cell (j := m + 1) (by omega)).1
          have q2 := (HM3.out.cell (j := m) (by omega)).1
          rw [show ((m + 1 : Nat) : Int) - 1 = (m : Int) by omega] at q1
          have e1 : IntKind.i64.wrap ((m : Int) + 1 + 1) = (m : Int) + 1 + 1 := IntWalk.i64_in _ (by omega)
          have e2 : IntKind.i64.wrap ((m : Int) + 1 - 1) = (m : Int) := by rw [show (m : Int) + 1 - 1 = m by omega]; exact IntWalk.i64_in _ (by omega)
          have e3 : ((m : Int) + 1).toNat = m + 1 := by omega
          have e4 : ((m : Int) + 1 - 1).toNat = m := by omega
          have s1 : Sp.cnt (Sp.hasB L) (m + 1) = Sp.cnt (Sp.hasB L) m + Sp.one (Sp.hasB L m) := rfl
          have s2 : Sp.cnt (Sp.fst L) (m + 1) = Sp.cnt (Sp.fst L) m + Sp.one (Sp.hasB L m && !Sp.hasB L ((m : Int) - 1)) := rfl
          obtain ⟨b1, b2⟩ := HC1.out m
          obtain ⟨b3, b4⟩ := HC2.out m
          have S1 := Lib.hid s1
          have S2 := Lib.hid s2
          clear s1 s2
          generalize Sp.cnt (Sp.hasB L) m = u at *
          generalize Sp.cnt (Sp.fst L) m = v at *
          generalize Sp.hasB L (m : Int) = x1 at *
          generalize Sp.hasB L ((m : Int) - 1) = x2 at *
          have e5 : IntKind.i64.wrap (u + 1) = u + 1 := IntWalk.i64_in _ (by omega)
          have e6 : IntKind.i64.wrap (v + 1) = v + 1 := IntWalk.i64_in _ (by omega)
          cases x1 <;> cases x2
          all_goals
            go_wp2
            go_round
            case rel => exact ⟨m + 1, by omega, by go_num, by rw [S1.out]; simp [Sp.one], by rw [S2.out]; simp [Sp.one]⟩
            case measure => simp [intOf]; omega
        · obtain rfl : m = 201 := by omega
          have hv := (Sp.mixS_spec 0 L []).1
          have hout : ∀ n : Int, 200 ≤ n → Sp.hasB L n = false := fun n hn => by
            cases hh : Sp.hasB L n with
            | false => rfl
            | true =>
              obtain ⟨_, _, t, ht, g1, g2⟩ := Sp.hasB_iff.1 hh
              have := HOK.out t ht
              omega
          have hfun : Sp.hasB (Sp.mixS 0 L []) = Sp.hasB L := by funext n; exact Sp.mix0_has L n
          have hfst : Sp.fst (Sp.mixS 0 L []) = Sp.fst L := by funext n; unfold Sp.fst; rw [hfun]
          have hC : sumS (Sp.mixS 0 L []) = Sp.cnt (Sp.hasB L) 201 := by
            rw [Sp.sumS_cnt hv, hfun]
            exact Sp.cnt_stop (N := 201) (fun k hk => hout k (by omega)) 16183
          have hE : ((Sp.mixS 0 L []).length : Int) = Sp.cnt (Sp.fst L) 201 := by
            rw [Sp.len_cnt hv, hfst]
            exact Sp.cnt_stop (N := 201) (fun k hk => by unfold Sp.fst; rw [hout k (by omega)]; rfl) 16183
          rw [← hE]
          generalize Sp.cnt (Sp.hasB L) 201 = cc at hC
          have wt : IntKind.i64.wrap at_ = at_ := IntWalk.i64_in _ (by omega)
          have we : IntKind.i64.wrap (at_ % 200 + 1) = at_ % 200 + 1 := IntWalk.i64_in _ (by omega)
          obtain ⟨k, hk⟩ : ∃ k : Nat, at_ % 200 = (k : Int) := ⟨(at_ % 200).toNat, by omega⟩
          have hk2 : k < 200 := by omega
          have q1 := (HM3.out.cell (j := k + 1) (by omega)).1
          rw [show ((k + 1 : Nat) : Int) - 1 = (k : Int) by omega] at q1
          have hwl : w.heap.size < w3.heap.size := by
            obtain ⟨cs, h1, -⟩ := HM3.out
            exact (Array.getElem?_eq_some_iff.1 h1).1
          have hkn : ((k : Int) + 1).toNat = k + 1 := by omega
          have hw2 : IntKind.i64.wrap ((k : Int) + 1) = (k : Int) + 1 := IntWalk.i64_in _ (by omega)
          have hk0 : (0 : Int) ≤ (k : Int) + 1 := by omega
          have hk1 : (k : Int) + 1 < 202 := by omega
          have HCt := Lib.hid (fun (w' : World) (h : Below w3.heap.size w3 w') => count_is a1 c1 L w' (by omega) (HS3.out.later h) hC)
          have HH1 := Lib.hid (fun (w' : World) (h : Below w3.heap.size w3 w') => devHas_any a1 c1 L (k : Int) w' (by omega) (HS3.out.later h))
          have HH2 : Hid (∀ w', Below w3.heap.size w3 w' → Calls Tryd.prog 16 #[.slice a2 (Sp.mixS 0 L []).length c2, .int .i64 (k : Int)] w' fun e w'' => e = .returned (.bool (Sp.hasB L (k : Int))) ∧ Below w'.heap.size w' w'') := Lib.hid fun w' h => by
            have := devHas_any a2 c2 (Sp.mixS 0 L []) (k : Int) w' (by omega) (HN.out.later h)
            rwa [hfun] at this
          have HH3 : Hid (∀ w', Below w3.heap.size w3 w' → Calls Tryd.prog 16 #[.slice a1 L.length c1, .int .i64 (-1)] w' fun e w'' => e = .returned (.bool false) ∧ Below w'.heap.size w' w'') := Lib.hid fun w' h => by
            have := devHas_any a1 c1 L (-1) w' (by omega) (HS3.out.later h)
            rwa [Sp.hasB_out (by omega)] at this
          have HH4 : Hid (∀ w', Below w3.heap.size w3 w' → Calls Tryd.prog 16 #[.slice a1 L.length c1, .int .i64 16384] w' fun e w'' => e = .returned (.bool false) ∧ Below w'.heap.size w' w'') := Lib.hid fun w' h => by
            have := devHas_any a1 c1 L 16384 w' (by omega) (HS3.out.later h)
            rwa [Sp.hasB_out (by omega)] at this
          have HAw := Lib.hid (fun (w' : World) (h : Below w3.heap.size w3 w') => awake_any w' (tab_later (tab_later HT.out HB3.out) h))
          clear hv hout hfun hfst hC hE
          generalize Sp.hasB L (k : Int) = xv at *
          go_upto_region 21 with (fail)
          rw [hk]
          cases xv
          · go_region_held3 (fun w' => w'.cell? ⟨w.heap.size, k + 1, none⟩ = some (.bool false))
              (first | go_keep | exact (HY6.out.cell (p := ⟨w.heap.size, k + 1, none⟩) hwl).trans q1 | exact (HY5.out.cell (p := ⟨w.heap.size, k + 1, none⟩) hwl).trans q1 | exact (HY4.out.cell (p := ⟨w.heap.size, k + 1, none⟩) hwl).trans q1 | exact (HY3.out.cell (p := ⟨w.heap.size, k + 1, none⟩) hwl).trans q1 | exact (HY2.out.cell (p := ⟨w.heap.size, k + 1, none⟩) hwl).trans q1 | exact (HY1.out.cell (p := ⟨w.heap.size, k + 1, none⟩) hwl).trans q1)
              (first
                | (go_at_call 18; refine (HCt.out _ ((Below.refl _ _).drew)).mono ?_; rintro e y1 ⟨rfl, hb⟩; have HY1 : Hid (Below w3.heap.size w3 y1) := Lib.hid (((Below.refl _ w3).drew).trans (hb.mono (Nat.le_refl _))); clear hb)
                | (go_at_call 16; with_reducible refine (HH1.out _ HY1.out).mono ?_; rintro e y2 ⟨rfl, hb⟩; have HY2 := Lib.hid (HY1.out.trans (hb.mono HY1.out.size)); clear hb)
                | (go_at_call 16; with_reducible refine (HH2.out _ HY2.out).mono ?_; rintro e y3 ⟨rfl, hb⟩; have HY3 := Lib.hid (HY2.out.trans (hb.mono HY2.out.size)); clear hb)
                | (go_at_call 16; with_reducible refine (HH3.out _ HY3.out).mono ?_; rintro e y4 ⟨rfl, hb⟩; have HY4 := Lib.hid (HY3.out.trans (hb.mono HY3.out.size)); clear hb)
                | (go_at_call 16; with_reducible refine (HH4.out _ HY4.out).mono ?_; rintro e y5 ⟨rfl, hb⟩; have HY5 := Lib.hid (HY4.out.trans (hb.mono HY4.out.size)); clear hb)
                | (go_at_call 10; refine (HAw.out _ HY5.out).mono ?_; rintro e y6 ⟨rfl, hb⟩; have HY6 := Lib.hid (HY5.out.trans (hb.mono HY5.out.size)); clear hb))
            go_wp2
            go_ret
            exact ⟨rfl, HB3.out.trans (HY6.out.mono HB3.out.size)⟩
          · go_region_held3 (fun w' => w'.cell? ⟨w.heap.size, k + 1, none⟩ = some (.bool true))
              (first | go_keep | exact (HY6.out.cell (p := ⟨w.heap.size, k + 1, none⟩) hwl).trans q1 | exact (HY5.out.cell (p := ⟨w.heap.size, k + 1, none⟩) hwl).trans q1 | exact (HY4.out.cell (p := ⟨w.heap.size, k + 1, none⟩) hwl).trans q1 | exact (HY3.out.cell (p := ⟨w.heap.size, k + 1, none⟩) hwl).trans q1 | exact (HY2.out.cell (p := ⟨w.heap.size, k + 1, none⟩) hwl).trans q1 | exact (HY1.out.cell (p := ⟨w.heap.size, k + 1, none⟩) hwl).trans q1)
              (first
                | (go_at_call 18; refine (HCt.out _ ((Below.refl _ _).drew)).mono ?_; rintro e y1 ⟨rfl, hb⟩; have HY1 : Hid (Below w3.heap.size w3 y1) := Lib.hid (((Below.refl _ w3).drew).trans (hb.mono (Nat.le_refl _))); clear hb)
                | (go_at_call 16; with_reducible refine (HH1.out _ HY1.out).mono ?_; rintro e y2 ⟨rfl, hb⟩; have HY2 := Lib.hid (HY1.out.trans (hb.mono HY1.out.size)); clear hb)
                | (go_at_call 16; with_reducible refine (HH2.out _ HY2.out).mono ?_; rintro e y3 ⟨rfl, hb⟩; have HY3 := Lib.hid (HY2.out.trans (hb.mono HY2.out.size)); clear hb)
                | (go_at_call 16; with_reducible refine (HH3.out _ HY3.out).mono ?_; rintro e y4 ⟨rfl, hb⟩; have HY4 := Lib.hid (HY3.out.trans (hb.mono HY3.out.size)); clear hb)
                | (go_at_call 16; with_reducible refine (HH4.out _ HY4.out).mono ?_; rintro e y5 ⟨rfl, hb⟩; have HY5 := Lib.hid (HY4.out.trans (hb.mono HY4.out.size)); clear hb)
                | (go_at_call 10; refine (HAw.out _ HY5.out).mono ?_; rintro e y6 ⟨rfl, hb⟩; have HY6 := Lib.hid (HY5.out.trans (hb.mono HY5.out.size)); clear hb))
            go_wp2
            go_ret
            exact ⟨rfl, HB3.out.trans (HY6.out.mono HB3.out.size)⟩

theorem spansSlots_walk (a : Option Addr) (cap : Nat) (ns : List Int) (at_ : Int) (w : World) (hS : U16s w a cap ns) (hat : 0 ≤ at_ ∧ at_ ≤ 65535) (ht : Tab w) :
    Calls Tryd.prog 8 #[.slice a ns.length cap, .int .u16 at_] w fun e w' => e = .returned (.bool true) ∧ Below w.heap.size w w' := by
  have hm : ns.length ≤ 9223372036854775807 := Nat.le_trans hS.1 hS.2.1
  by_cases h : 60 < ns.length
  · go_enter Tryd.func8, Tryd.ntmps8
    go_wp2_with fail
    refine (awake_any _ ht).mono ?_
    rintro e w1 ⟨rfl, hb⟩
    have HB := Lib.hid hb
    clear hb
    go_wp2
    go_ret
    exact ⟨rfl, HB.out⟩
  · exact spansSlots_some a cap ns at_ w (by omega) hS.2.2.1 hS.2.2.2 hat ht
end Go.Proofs.YtlbmkgnfbkimaaaDoor
