/- The contract of the reference's Decide (14.1). -/
import Derived.Test.YtahmddopbmjepaaDoorRD25
import Derived.Test.YtahmddopbmjepaaDoorRD20
import Derived.Test.YtahmddopbmjepaaDoorRD23
import Derived.Test.YtahmddopbmjepaaDoorRD29
namespace Go.Proofs.YtahmddopbmjepaaDoor
open Go.RowKit Go.Shelf
attribute [local go_sem] Oper.semAt_some
set_option linter.unusedVariables false
set_option linter.unusedSimpArgs false

theorem node_loadAt {W : World} {B : Nat} {n : NV} (h : NdBox W B n) : (Instr.loadAt 36 (.pointer (some ⟨B, 0, none⟩))).run Tryd.prog W = .ok (.agg n.cells) W := by
  simp only [Instr.loadAt, Instr.sureAddr, Sem.run_bind, Sem.run_pure, Result.andThen]
  exact nodeLoad h
theorem exec_load_node {W : World} {B : Nat} {n : NV} (h : NdBox W B n) {o : Oper} {x : Operand} {ev : Operand → Value} (ho : o.op = .load 36 x) (hx : ev x = .pointer (some ⟨B, 0, none⟩)) : (execOp ev o).run Tryd.prog W = .ok (.value (.agg n.cells)) W := by
  unfold execOp
  simp only [ho, hx]
  simp only [Instr.loadAt, Instr.sureAddr, Sem.run_bind, Sem.run_pure, Result.andThen_ok, nodeLoad h]

set_option maxRecDepth 100000 in
set_option maxHeartbeats 8000000 in
theorem refDecide_any (n : NV) (d : Rt.Nd) (ps : List Lp) (asking : Bool) (aK : Option Addr) (cK : Nat) (ks : List (List UInt8)) (w : World) (hN : Node w n d ps) (hn : ps.length ≤ 1000000) (hm : d.mv.length ≤ 1000000) (hv : Ow.VL d.cl)
    (hK : Wds w aK cK ks) (hk1 : ks.length ≤ 1000000) :
    Calls Tryd.prog 13 #[.agg n.cells, .slice aK ks.length cK, .bool asking] w fun e w' => e = .returned (.string ⟨(Rt.decideS d ks asking).toArray⟩) ∧ Below w.heap.size w w' := by
  obtain ⟨w1, hw1⟩ : ∃ w1, w.alloc (.cells n.cells 36) = w1 := ⟨_, rfl⟩
  have hx1 : NdBox w1 w.heap.size n := by rw [← hw1]; exact NdBox.new w n
  have hB1 : Below w.heap.size w w1 := by rw [← hw1]; exact (Below.refl _ w).alloc (Nat.le_refl _) _
  have hlt1 : w.heap.size < w1.heap.size := by rw [← hw1]; simp
  obtain ⟨R, hR⟩ : ∃ R, Rt.decideS d ks asking = R := ⟨_, rfl⟩
  rw [hR]
  have HX := Lib.hid hx1
  have HB := Lib.hid hB1
  have hkI : (ks.length : Int) ≤ 1000000 := by omega
  by_cases h0 : ks = []
  · have HZ : Hid (R = []) := Lib.hid (by rw [← hR]; unfold Rt.decideS; rw [if_pos h0])
    subst h0
    clear hR hN hK hx1 hB1
    go_enter Tryd.func13, Tryd.ntmps13
    go_wp2_with fail
    go_ret
    exact ⟨by rw [HZ.out]; rfl, HB.out⟩
  have hk0 : 0 < ks.length := List.length_pos_iff.2 h0
  have hkI0 : ((ks.length : Int) == 0) = false := by rw [beq_eq_false_iff_ne]; omega
  have hkI1 : (0 : Int) < (ks.length : Int) := by omega
  have hO := rt_refOne aK cK ks w1 (hK.later hB1) hk1
  rcases one_of ks with ⟨ho, hoo⟩ | ⟨x, ho, hx, hoo⟩
  · have HZ : Hid (R = Rt.cross) := Lib.hid (by rw [← hR]; unfold Rt.decideS; rw [if_neg h0, if_pos ho])
    obtain ⟨z, hz⟩ : ∃ z, Rt.one ks = z := ⟨_, rfl⟩
    rw [hz] at hO ho
    have HO := Lib.hid hO
    clear hR hN hK hx1 hB1 hO hoo hz
    go_enter Tryd.func13, Tryd.ntmps13
    go_wp2_with fail
    refine (HO.out).mono ?_
    rintro e w2 ⟨rfl, rfl⟩
    go_wp2_with fail
    go_ret
    exact ⟨by rw [HZ.out]; rfl, HB.out⟩
  rw [ho] at hO
  have HO := Lib.hid hO
  have hid := hN.id
  have hms := hN.ms
  have hcln := hN.cln
  have hmvn := hN.mvn
  have hxI : (x : Int) < 16384 := by omega
  have hx0 : ¬ (x : Int) < 0 := by omega
  have HOF : Hid (Calls Tryd.prog 31 #[.slice n.cl.a d.cl.length n.cl.c, .int .i64 (x : Int)] w1 fun e w' => e = .returned (.tuple #[.int .i64 (Ow.ro (Ow.own d.cl (x : Int))).1, .int .i64 (Ow.ro (Ow.own d.cl (x : Int))).2]) ∧ Below w1.heap.size w1 w') := Lib.hid (refOf_any n.cl.a n.cl.c d.cl x w1 (hN.cl.later hB1))
  have hR2 : R = match Ow.own d.cl (x : Int) with
      | none => Rt.down
      | some o => if d.ms = -1 ∧ o.1 = d.id then Rt.ownerS d x ks else if d.ms = -1 ∧ asking = true then [] else Rt.redir Rt.mvd x o.1 := by
    rw [← hR]; unfold Rt.decideS; rw [if_neg h0, if_neg (by omega), ho]; rfl
  obtain ⟨z1, z2, z5, z6, z7⟩ := hx1.few
  cases hown : Ow.own d.cl (x : Int) with
  | none =>
    rw [hown] at HOF hR2
    simp only [Ow.ro] at HOF
    have HZ := Lib.hid hR2
    clear hR hR2 hN hK hx1 hB1 hO ho hoo hown
    go_enter Tryd.func13, Tryd.ntmps13
    go_wp2_with fail
    refine (HO.out).mono ?_
    rintro e w2 ⟨rfl, rfl⟩
    go_wp2_with fail
    refine (HOF.out).mono ?_
    rintro e w3 ⟨rfl, hb⟩
    have HB3 := Lib.hid (HB.out.trans (hb.mono HB.out.size))
    clear hb
    go_wp2_with fail
    go_ret
    exact ⟨by rw [HZ.out]; rfl, HB3.out⟩
  | some o =>
    obtain ⟨who, ep⟩ := o
    have hrange := Ow.own_range hv hown
    simp only at hrange
    have hwho : 0 ≤ who ∧ who < 8 := by omega
    have hwn : ¬ who < 0 := by omega
    rw [hown] at HOF hR2
    simp only [Ow.ro] at HOF
    simp only at hR2
    have HR2 := Lib.hid hR2
    have HDX : Hid (∀ W : World, Calls Tryd.prog 21 #[.int .i64 (x : Int)] W fun e w' => e = .returned (.string ⟨(Dig.dec (x : Int)).toArray⟩) ∧ Below W.heap.size W w') := Lib.hid fun W => digits_any x W (by omega) (by omega)
    have HDW : Hid (∀ W : World, Calls Tryd.prog 21 #[.int .i64 who] W fun e w' => e = .returned (.string ⟨(Dig.dec who).toArray⟩) ∧ Below W.heap.size W w') := Lib.hid fun W => digits_any who W (by omega) (by omega)
    have hlX := dec_len (x : Int) (by omega) (by omega)
    have hlW := dec_len who (by omega) (by omega)
    have HRD : Hid (Rt.redir Rt.mvd x who = Rt.mvd ++ 32 :: (Dig.dec (x : Int) ++ 32 :: Dig.dec who)) := Lib.hid rfl
    generalize Dig.dec (x : Int) = S at HDX hlX HRD
    generalize Dig.dec who = T at HDW hlW HRD
    have hcat : (⟨#[77, 79, 86, 69, 68, 32]⟩ : ByteArray) ++ ⟨S.toArray⟩ ++ ⟨#[32]⟩ ++ ⟨T.toArray⟩ = ⟨(Rt.mvd ++ 32 :: (S ++ 32 :: T)).toArray⟩ := by
      apply ByteArray.ext; simp [Rt.mvd]
    have HCAT := Lib.hid hcat
    clear hcat
    have HMOV : Hid (∀ (m : Rt.Mv) (W : World), m.Ok → Below w.heap.size w W → d.mv.find? (fun m => decide (m.s = (x : Int))) = some m → Calls Tryd.prog 32 #[.agg n.cells, .agg #[.int .i64 m.s, .int .i64 m.t, .int .i64 m.n, .string ⟨m.k.toArray⟩], .slice aK ks.length cK] W fun e w' => e = .returned (.string ⟨(Rt.ownerS d x ks).toArray⟩) ∧ Below W.heap.size W w') := Lib.hid fun m W hok hb hf => by
      have h := moving_any n ps m.s m.t m.n m.k aK cK ks W hN.dbn (hN.db.later hb) hn hok (hK.later hb) hk0 hk1
      rw [← hN.has] at h
      unfold Rt.ownerS
      rw [hf]
      exact h
    have HNONE : Hid (d.mv.find? (fun m => decide (m.s = (x : Int))) = none → Rt.ownerS d x ks = []) := Lib.hid fun h => by unfold Rt.ownerS; rw [h]
    have HM := Lib.hid (hN.mv.later hB1)
    have hmI : (d.mv.length : Int) ≤ 1000000 := by omega
    clear hR hR2 hN hK hx1 hB1 hO ho hoo hown hrange
    go_enter Tryd.func13, Tryd.ntmps13
    go_wp2_with fail
    refine (HO.out).mono ?_
    rintro e w2 ⟨rfl, rfl⟩
    go_wp2_with fail
    refine (HOF.out).mono ?_
    rintro e w3 ⟨rfl, hb⟩
    have HB3 := Lib.hid (HB.out.trans (hb.mono HB.out.size))
    have hlt3 : w.heap.size < w3.heap.size := by have := hb.size; omega
    have HX3 := Lib.hid (HX.out.later hb hlt1)
    have HM3 := Lib.hid (HM.out.later hb)
    clear hb z1 z2 z5 z6 z7 HM HOF HO
    obtain ⟨z1, z2, z5, z6, z7⟩ := HX3.out.few
    by_cases c1 : d.ms = -1
    · have c1' : (d.ms == -1) = true := by rw [beq_iff_eq]; exact c1
      have c1n : (d.ms != -1) = false := by rw [c1]; rfl
      by_cases c2 : who = d.id
      · have c2' : (who == d.id) = true := by rw [beq_iff_eq]; exact c2
        have c2n : (who != d.id) = false := by rw [c2]; simp
        have HZ : Hid (R = Rt.ownerS d x ks) := Lib.hid (by rw [HR2.out, if_pos ⟨c1, c2⟩])
        clear c1 c2 HR2 HRD HDX HDW HCAT
        go_wp2_with fail
        go_loopw [10] (fun i wr => ∃ k : Nat, k ≤ d.mv.length ∧ i = .int .i64 k ∧ Hid (∀ j, j < k → (d.mv.getD j Rt.Mv.zero).s ≠ (x : Int)) ∧ Hid (Below w3.heap.size w3 wr)) (fun i _ => d.mv.length - (intOf i).toNat)
        case atStart => exact ⟨0, by omega, rfl, Lib.hid fun j h => by omega, Lib.hid (Below.refl _ _)⟩
        case round =>
          obtain ⟨k, hk, rfl, HK, HBr⟩ := hrel
          have HBw := Lib.hid (HB3.out.trans (HBr.out.mono HB3.out.size))
          have HXr := Lib.hid (HX3.out.later HBr.out hlt3)
          have HMr := Lib.hid (HM3.out.later HBr.out)
          obtain ⟨-, -, -, y6, y7⟩ := HXr.out.few
          by_cases hltk : k < d.mv.length
          · obtain ⟨b, off, hav, hbl, hc⟩ := HMr.out.get (by omega)
            obtain ⟨q0, q1, q2, q3⟩ := hc k hltk
            have hok := HMr.out.ok hltk
            have HH : Hid ((d.mv.getD k Rt.Mv.zero).s = (x : Int) → d.mv.find? (fun m => decide (m.s = (x : Int))) = some (d.mv.getD k Rt.Mv.zero)) := Lib.hid (mv_find_some hltk HK.out)
            have HNX : Hid ((d.mv.getD k Rt.Mv.zero).s ≠ (x : Int) → ∀ j, j < k + 1 → (d.mv.getD j Rt.Mv.zero).s ≠ (x : Int)) := Lib.hid fun h j hj => by
              rcases Nat.lt_or_ge j k with h' | h'
              · exact HK.out j h'
              · rw [show j = k by omega]; exact h
            obtain ⟨⟨s, t, q, key⟩, hmm⟩ : ∃ m, d.mv.getD k Rt.Mv.zero = m := ⟨_, rfl⟩
            rw [hmm] at q0 q1 q2 q3 HH HNX hok
            simp only at q0 q1 q2 q3 HH HNX
            rw [hav] at y7
            have k0 : (0 : Int) ≤ (k : Int) := by omega
            have k1 : (k : Int) < (d.mv.length : Int) := by omega
            by_cases he : s = (x : Int)
            · have he' : (s == (x : Int)) = true := by rw [beq_iff_eq]; exact he
              have hf := HH.out he
              have HMV : Hid (∀ W, Below w.heap.size w W → Calls Tryd.prog 32 #[.agg n.cells, .agg #[.int .i64 s, .int .i64 t, .int .i64 q, .string ⟨key.toArray⟩], .slice aK ks.length cK] W fun e w' => e = .returned (.string ⟨(Rt.ownerS d x ks).toArray⟩) ∧ Below W.heap.size W w') := Lib.hid fun W hb => HMOV.out ⟨s, t, q, key⟩ W hok hb hf
              clear hf he hmm hc HH HNX hok HMOV
              go_upto_region 17 with (fail)
              refine wp_region_L (S := fun W => NdBox W w.heap.size n ∧ W.cell? ⟨b, off + k * 4, none⟩ = some (.int .i64 s) ∧ W.cell? ⟨b, off + k * 4 + 1, none⟩ = some (.int .i64 t) ∧ W.cell? ⟨b, off + k * 4 + 2, none⟩ = some (.int .i64 q) ∧ W.cell? ⟨b, off + k * 4 + 3, none⟩ = some (.string ⟨key.toArray⟩)) (f := 8) (by kernel_rfl) ?_
              obtain ⟨wq, hwq⟩ : ∃ wq, wr.drew = wq := ⟨_, rfl⟩
              rw [hwq]
              have hbq : Below wr.heap.size wr wq := by rw [← hwq]; exact (Below.refl _ _).drew
              have HBq := Lib.hid (HBw.out.trans (hbq.mono HBw.out.size))
              have HS0 : NdBox wq w.heap.size n ∧ wq.cell? ⟨b, off + k * 4, none⟩ = some (.int .i64 s) ∧ wq.cell? ⟨b, off + k * 4 + 1, none⟩ = some (.int .i64 t) ∧ wq.cell? ⟨b, off + k * 4 + 2, none⟩ = some (.int .i64 q) ∧ wq.cell? ⟨b, off + k * 4 + 3, none⟩ = some (.string ⟨key.toArray⟩) :=
                ⟨HXr.out.later hbq (by have := HBr.out.size; omega), (hbq.cell (p := ⟨b, off + k * 4, none⟩) hbl).trans q0, (hbq.cell (p := ⟨b, off + k * 4 + 1, none⟩) hbl).trans q1, (hbq.cell (p := ⟨b, off + k * 4 + 2, none⟩) hbl).trans q2, (hbq.cell (p := ⟨b, off + k * 4 + 3, none⟩) hbl).trans q3⟩
              clear hbq q0 q1 q2 q3 y6 y7
              refine wpAnyL_take (i := 0) (some 66) (v := .agg n.cells) rfl rfl (by kernel_rfl) (by kernel_rfl) (by kernel_rfl) (by kernel_rfl) (fun _ _ _ h => h) (by rfl) (fun W hS => ?_) HS0 ?_
              · exact exec_load_node hS.1 rfl rfl
              try simp only [Act.put, List.setIfInBounds_toArray, List.set_cons_zero, List.set_cons_succ]
              refine wpAnyL_take (i := 1) (some 67) (v := .pointer (some ⟨w.heap.size, 7, none⟩)) rfl rfl (by kernel_rfl) (by kernel_rfl) (by kernel_rfl) (by kernel_rfl) (fun _ _ _ h => h) (by rfl) (fun W hS => ?_) HS0 ?_
              · obtain ⟨mm, m0, m1, m2, m3⟩ := hS
                obtain ⟨-, -, -, -, m7⟩ := mm.few
                rw [hav] at m7
                go_simp
              try simp only [Act.put, List.setIfInBounds_toArray, List.set_cons_zero, List.set_cons_succ]
              refine wpAnyL_take (i := 2) (some 68) (v := .slice (some ⟨b, off, none⟩) n.mv.n n.mv.c) rfl rfl (by kernel_rfl) (by kernel_rfl) (by kernel_rfl) (by kernel_rfl) (fun _ _ _ h => h) (by rfl) (fun W hS => ?_) HS0 ?_
              · obtain ⟨mm, m0, m1, m2, m3⟩ := hS
                obtain ⟨-, -, -, -, m7⟩ := mm.few
                rw [hav] at m7
                go_simp
              try simp only [Act.put, List.setIfInBounds_toArray, List.set_cons_zero, List.set_cons_succ]
              refine wpAnyL_take (i := 3) (some 69) (v := .int .i64 k) rfl rfl (by kernel_rfl) (by kernel_rfl) (by kernel_rfl) (by kernel_rfl) (fun _ _ _ h => h) (by rfl) (fun W hS => ?_) HS0 ?_
              · obtain ⟨mm, m0, m1, m2, m3⟩ := hS
                obtain ⟨-, -, -, -, m7⟩ := mm.few
                rw [hav] at m7
                go_simp
              try simp only [Act.put, List.setIfInBounds_toArray, List.set_cons_zero, List.set_cons_succ]
              refine wpAnyL_take (i := 4) (some 70) (v := .pointer (some ⟨b, off + k * 4, none⟩)) rfl rfl (by kernel_rfl) (by kernel_rfl) (by kernel_rfl) (by kernel_rfl) (fun _ _ _ h => h) (by rfl) (fun W hS => ?_) HS0 ?_
              · obtain ⟨mm, m0, m1, m2, m3⟩ := hS
                obtain ⟨-, -, -, -, m7⟩ := mm.few
                rw [hav] at m7
                go_simp
              try simp only [Act.put, List.setIfInBounds_toArray, List.set_cons_zero, List.set_cons_succ]
              refine wpAnyL_take (i := 5) (some 71) (v := .agg #[.int .i64 s, .int .i64 t, .int .i64 q, .string ⟨key.toArray⟩]) rfl rfl (by kernel_rfl) (by kernel_rfl) (by kernel_rfl) (by kernel_rfl) (fun _ _ _ h => h) (by rfl) (fun W hS => ?_) HS0 ?_
              · obtain ⟨mm, m0, m1, m2, m3⟩ := hS
                obtain ⟨-, -, -, -, m7⟩ := mm.few
                rw [hav] at m7
                go_simp
              try simp only [Act.put, List.setIfInBounds_toArray, List.set_cons_zero, List.set_cons_succ]
              refine wpAnyL_take (i := 6) (some 72) (v := .slice aK ks.length cK) rfl rfl (by kernel_rfl) (by kernel_rfl) (by kernel_rfl) (by kernel_rfl) (fun _ _ _ h => h) (by rfl) (fun W hS => ?_) HS0 ?_
              · obtain ⟨mm, m0, m1, m2, m3⟩ := hS
                obtain ⟨-, -, -, -, m7⟩ := mm.few
                rw [hav] at m7
                go_simp
              try simp only [Act.put, List.setIfInBounds_toArray, List.set_cons_zero, List.set_cons_succ]
              refine wpAnyL_one (j := 7) (by kernel_rfl) rfl (by rfl) (fun K hK => ?_)
              go_simp
              with_reducible refine (HMV.out _ HBq.out).mono ?_
              rintro e w5 ⟨rfl, hb⟩
              have HB5 := Lib.hid (HBq.out.trans (hb.mono HBq.out.size))
              obtain ⟨mm, s0, s1, s2, s3⟩ := HS0
              have HS5 := And.intro (mm.later hb (Array.getElem?_eq_some_iff.1 mm).1) (And.intro ((hb.cell (World.block_lt_of_cell? _ _ s0)).trans s0) (And.intro ((hb.cell (World.block_lt_of_cell? _ _ s1)).trans s1) (And.intro ((hb.cell (World.block_lt_of_cell? _ _ s2)).trans s2) ((hb.cell (World.block_lt_of_cell? _ _ s3)).trans s3))))
              clear hb
              refine hK _ _ (fun _ => HS5) ?_
              clear hK K
              try simp only [Act.put, List.setIfInBounds_toArray, List.set_cons_zero, List.set_cons_succ]
              refine wpAnyL_one (j := 8) (by kernel_rfl) rfl (by rfl) (fun K hK => ?_)
              go_simp
              refine hK _ _ (fun h => (h rfl).elim) ?_
              clear hK K
              try simp only [Act.put, List.setIfInBounds_toArray, List.set_cons_zero, List.set_cons_succ]
              refine wpAnyL_done (by kernel_rfl) ?_ _
              go_wp2_with fail
              go_ret
              exact ⟨by rw [HZ.out]; rfl, HB5.out⟩
            · have he' : (s == (x : Int)) = false := by rw [beq_eq_false_iff_ne]; exact he
              have HZ2 := Lib.hid (HNX.out he)
              clear he hmm hc HH HNX hok HMOV
              go_wp2_with fail
              go_roundw
              case rel => exact ⟨k + 1, by omega, by go_num, HZ2, HBr⟩
              case measure => simp [intOf]; omega
          · have HY := Lib.hid (show R = [] by rw [HZ.out, HNONE.out (mv_find_none fun j hj => HK.out j (by omega))])
            have k1 : ¬ (k : Int) < (d.mv.length : Int) := by omega
            go_wp2_with fail
            go_ret
            exact ⟨by rw [HY.out]; rfl, HBw.out⟩
      · have c2' : (who == d.id) = false := by rw [beq_eq_false_iff_ne]; exact c2
        have c2n : (who != d.id) = true := by rw [bne_iff_ne]; exact c2
        cases asking with
        | true =>
          have HZ : Hid (R = []) := Lib.hid (by rw [HR2.out, if_neg (fun h => c2 h.2), if_pos ⟨c1, rfl⟩])
          clear c1 c2 HR2
          go_wp2_with fail
          go_ret
          exact ⟨by rw [HZ.out]; rfl, HB3.out⟩
        | false =>
          have HZ : Hid (R = Rt.redir Rt.mvd x who) := Lib.hid (by rw [HR2.out, if_neg (fun h => c2 h.2), if_neg (fun h => by cases h.2)])
          clear c1 c2 HR2
          go_wp2_with fail
          refine (HDX.out _).mono ?_
          rintro e w4 ⟨rfl, hb⟩
          have HB4 := Lib.hid (HB3.out.trans (hb.mono HB3.out.size))
          clear hb
          go_wp2_with fail
          refine (HDW.out _).mono ?_
          rintro e w5 ⟨rfl, hb⟩
          have HB5 := Lib.hid (HB4.out.trans (hb.mono HB4.out.size))
          clear hb
          go_wp2_with fail
          go_ret
          refine ⟨?_, HB5.out⟩
          rw [HZ.out, HRD.out, ← HCAT.out]
          rfl
    · have c1' : (d.ms == -1) = false := by rw [beq_eq_false_iff_ne]; exact c1
      have c1n : (d.ms != -1) = true := by rw [bne_iff_ne]; exact c1
      have HZ : Hid (R = Rt.redir Rt.mvd x who) := Lib.hid (by rw [HR2.out, if_neg (fun h => c1 h.1), if_neg (fun h => c1 h.1)])
      clear c1 HR2
      cases asking with
      | true =>
        go_wp2_with fail
        refine (HDX.out _).mono ?_
        rintro e w4 ⟨rfl, hb⟩
        have HB4 := Lib.hid (HB3.out.trans (hb.mono HB3.out.size))
        clear hb
        go_wp2_with fail
        refine (HDW.out _).mono ?_
        rintro e w5 ⟨rfl, hb⟩
        have HB5 := Lib.hid (HB4.out.trans (hb.mono HB4.out.size))
        clear hb
        go_wp2_with fail
        go_ret
        refine ⟨?_, HB5.out⟩
        rw [HZ.out, HRD.out, ← HCAT.out]
        rfl
      | false =>
        go_wp2_with fail
        refine (HDX.out _).mono ?_
        rintro e w4 ⟨rfl, hb⟩
        have HB4 := Lib.hid (HB3.out.trans (hb.mono HB3.out.size))
        clear hb
        go_wp2_with fail
        refine (HDW.out _).mono ?_
        rintro e w5 ⟨rfl, hb⟩
        have HB5 := Lib.hid (HB4.out.trans (hb.mono HB4.out.size))
        clear hb
        go_wp2_with fail
        go_ret
        refine ⟨?_, HB5.out⟩
        rw [HZ.out, HRD.out, ← HCAT.out]
        rfl
end Go.Proofs.YtahmddopbmjepaaDoor
