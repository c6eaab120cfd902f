/- The contract of the program's Decide (14.1). -/
import Derived.Test.YtahmddopbmjepaaDoorRC27
import Derived.Test.YtahmddopbmjepaaDoorRC29
import Derived.Test.YtahmddopbmjepaaDoorRC31
import Derived.Laws.Rows
namespace Go.Proofs.YtahmddopbmjepaaDoor
open Go.RowKit Go.Shelf
attribute [local go_sem] Oper.semAt_some
set_option linter.unusedVariables false
set_option linter.unusedSimpArgs false

def strsOf (ks : List (List UInt8)) : List ByteArray := ks.map fun k => ⟨k.toArray⟩
theorem Wds.strs {w : World} {a : Option Addr} {cap : Nat} {ks : List (List UInt8)} (h : Wds w a cap ks) : Strs w a cap (strsOf ks) := by
  obtain ⟨h0, h1, h2, h3⟩ := h
  refine ⟨by unfold strsOf; rw [List.length_map]; exact h0, ?_, ?_⟩
  · intro s hs
    obtain ⟨k, hk, rfl⟩ := List.mem_map.1 hs
    have := h2 k hk
    show k.toArray.size ≤ maxLen
    unfold maxLen
    simp; omega
  · rcases h3 with rfl | ⟨b, off, ha, hb, hc⟩
    · exact .inl rfl
    · refine .inr ⟨b, off, ha, hb, fun k hk => ?_⟩
      unfold strsOf at hk ⊢
      rw [List.length_map] at hk
      rw [hc k hk]
      simp [List.getD, hk]
theorem one_of (ks : List (List UInt8)) : (Rt.one ks < 0 ∧ oneOf (strsOf ks) = none) ∨ ∃ n : Nat, Rt.one ks = n ∧ n < 16384 ∧ oneOf (strsOf ks) = some n := by
  cases ks with
  | nil => exact .inl ⟨by decide, rfl⟩
  | cons k r =>
    have e : oneOf (strsOf (k :: r)) = if r.all (fun x => decide (slotOf x = slotOf k)) then some (slotOf k) else none := by
      show (if ((strsOf r).all fun x => slotOf x.data.toList == slotOf k.toArray.toList) then some (slotOf k.toArray.toList) else none) = _
      have : ((strsOf r).all fun x => slotOf x.data.toList == slotOf k.toArray.toList) = r.all (fun x => decide (slotOf x = slotOf k)) := by
        unfold strsOf
        rw [List.all_map]
        rfl
      rw [this]
    have f : Rt.one (k :: r) = if r.all (fun x => decide (slotOf x = slotOf k)) then (slotOf k : Int) else -1 := rfl
    rw [e, f]
    split
    · exact .inr ⟨slotOf k, rfl, by unfold slotOf; omega, rfl⟩
    · exact .inl ⟨by decide, rfl⟩

theorem nodeLoad {w : World} {B : Nat} {n : NV} (h : NdBox w B n) : (loadVar 36 ⟨B, 0, none⟩).run Tryd.prog w = .ok (.agg n.cells) w :=
  run_loadVar_row w B _ _ n.cells (0, 0) _ h Tryd.underlying36 rfl (by kernel_rfl)

set_option maxRecDepth 100000 in
set_option maxHeartbeats 8000000 in
theorem decide_any (n : NV) (d : Rt.Nd) (ps : List Lp) (asking : Bool) (aK : Option Addr) (cK : Nat) (ks : List (List UInt8)) (w : World) (hE : Env w) (hN : Node w n d ps) (hn : ps.length ≤ 1000000) (hu : AscL ps) (hsm : ∀ p ∈ ps, p.p.Sm) (hm : d.mv.length ≤ 1000000) (hv : Ow.VL d.cl)
    (hK : Wds w aK cK ks) (hk1 : ks.length ≤ 1000000) :
    Calls Tryd.prog 12 #[.agg n.cells, .slice aK ks.length cK, .bool asking] w fun e w' => e = .returned (.string ⟨(Rt.decideS d ks asking).toArray⟩) ∧ Below w.heap.size w w' := by
  obtain ⟨w1, hw1⟩ : ∃ w1, w.alloc (.cells n.cells 36) = w1 := ⟨_, rfl⟩
  have hx1 : NdBox w1 w.heap.size n := by rw [← hw1]; exact NdBox.new w n
  have hB1 : Below w.heap.size w w1 := by rw [← hw1]; exact (Below.refl _ w).alloc (Nat.le_refl _) _
  have hlt1 : w.heap.size < w1.heap.size := by rw [← hw1]; simp
  obtain ⟨R, hR⟩ : ∃ R, Rt.decideS d ks asking = R := ⟨_, rfl⟩
  rw [hR]
  have HX := Lib.hid hx1
  have HB := Lib.hid hB1
  have hkI : (ks.length : Int) ≤ 1000000 := by omega
  by_cases h0 : ks = []
  · have HZ : Hid (R = []) := Lib.hid (by rw [← hR]; unfold Rt.decideS; rw [if_pos h0])
    subst h0
    clear hR hN hE hu hsm hK hx1 hB1
    go_enter Tryd.func12, Tryd.ntmps12
    go_wp2_with fail
    go_ret
    exact ⟨by rw [HZ.out]; rfl, HB.out⟩
  have hk0 : 0 < ks.length := List.length_pos_iff.2 h0
  have hkI0 : ((ks.length : Int) == 0) = false := by rw [beq_eq_false_iff_ne]; omega
  have hkI1 : (0 : Int) < (ks.length : Int) := by omega
  have hO := one_any aK cK (strsOf ks) w1 (by unfold strsOf; rw [List.length_map]; omega) (hK.later hB1).strs
  rw [show (strsOf ks).length = ks.length from List.length_map ..] at hO
  rcases one_of ks with ⟨ho, hoo⟩ | ⟨x, ho, hx, hoo⟩
  · rw [hoo] at hO
    have HO := Lib.hid hO
    have HZ : Hid (R = Rt.cross) := Lib.hid (by rw [← hR]; unfold Rt.decideS; rw [if_neg h0, if_pos ho])
    clear hR hN hE hu hsm hK hx1 hB1 hO ho hoo
    go_enter Tryd.func12, Tryd.ntmps12
    go_wp2_with fail
    refine (HO.out).mono ?_
    rintro e w2 ⟨rfl, hb⟩
    have HB2 := Lib.hid (HB.out.trans (hb.mono HB.out.size))
    clear hb
    unfold oneVal
    go_wp2_with fail
    go_ret
    exact ⟨by rw [HZ.out]; rfl, HB2.out⟩
  rw [hoo] at hO
  have HO := Lib.hid hO
  have hid := hN.id
  have hms := hN.ms
  have hcln := hN.cln
  have hxI : (x : Int) < 16384 := by omega
  have HOF : Hid (∀ W, Below w.heap.size w W → Calls Tryd.prog 27 #[.slice n.cl.a d.cl.length n.cl.c, .int .i64 (x : Int)] W fun e w' => e = .returned (.tuple #[.int .i64 (Ow.zo (Ow.own d.cl (x : Int))).1, .int .i64 (Ow.zo (Ow.own d.cl (x : Int))).2, .bool (Ow.own d.cl (x : Int)).isSome]) ∧ Below W.heap.size W w') := Lib.hid fun W hb => ow_of_any n.cl.a n.cl.c d.cl x W (hN.cl.later hb) hv
  have HOW : Hid (∀ W, Below w.heap.size w W → Calls Tryd.prog 28 #[.agg n.cells, .int .i64 (x : Int), .slice aK ks.length cK] W fun e w' => e = .returned (.string ⟨(Rt.ownerS d x ks).toArray⟩) ∧ Below W.heap.size W w') := Lib.hid fun W hb => atOwner_any n d ps x aK cK ks W (hE.later hb) (hN.later hb) hn hu hsm hm (hK.later hb) hk0 hk1
  have hR2 : R = match Ow.own d.cl (x : Int) with
      | none => Rt.down
      | some o => if d.ms = -1 ∧ o.1 = d.id then Rt.ownerS d x ks else if d.ms = -1 ∧ asking = true then [] else Rt.redir Rt.mvd x o.1 := by
    rw [← hR]; unfold Rt.decideS; rw [if_neg h0, if_neg (by omega), ho]; rfl
  obtain ⟨-, z2, z5, -, -⟩ := (show _ ∧ _ ∧ _ ∧ _ ∧ _ from hx1.few)
  have HE := Lib.hid hE
  cases hown : Ow.own d.cl (x : Int) with
  | none =>
    rw [hown] at HOF hR2
    have HZ := Lib.hid hR2
    clear hR hR2 hN hE hu hsm hK hx1 hB1 hO ho hoo hown z2 z5
    go_enter Tryd.func12, Tryd.ntmps12
    go_wp2_with fail
    refine (HO.out).mono ?_
    rintro e w2 ⟨rfl, hb⟩
    have HB2 := Lib.hid (HB.out.trans (hb.mono HB.out.size))
    obtain ⟨z1, z2, z5, -, -⟩ := (HX.out.later hb hlt1).few
    clear hb
    unfold oneVal
    go_wp2_with fail
    refine (HOF.out _ HB2.out).mono ?_
    rintro e w3 ⟨rfl, hb⟩
    have HB3 := Lib.hid (HB2.out.trans (hb.mono HB2.out.size))
    clear hb
    go_wp2_with fail
    go_ret
    exact ⟨by rw [HZ.out]; rfl, HB3.out⟩
  | some o =>
    obtain ⟨who, ep⟩ := o
    have hrange := Ow.own_range hv hown
    simp only at hrange
    have hwho : 0 ≤ who ∧ who < 8 := by omega
    rw [hown] at HOF hR2
    simp only [Ow.zo] at HOF
    simp only at hR2
    have HRED : Hid (∀ W : World, Below w.heap.size w W → Calls Tryd.prog 29 #[.string ⟨#[77, 79, 86, 69, 68]⟩, .int .i64 (x : Int), .int .i64 who] W fun e w' => e = .returned (.string ⟨(Rt.redir Rt.mvd x who).toArray⟩) ∧ Below W.heap.size W w') :=
      Lib.hid fun W hb => redir_any Rt.mvd x who W (HE.out.later hb) (by decide) (by omega) (by omega) (by omega) (by omega)
    have HR2 := Lib.hid hR2
    clear hR hR2 hN hE hu hsm hK hx1 hB1 hO ho hoo hown z2 z5 hrange
    go_enter Tryd.func12, Tryd.ntmps12
    go_wp2_with fail
    refine (HO.out).mono ?_
    rintro e w2 ⟨rfl, hb⟩
    have HB2 := Lib.hid (HB.out.trans (hb.mono HB.out.size))
    have hlt2 : w.heap.size < w2.heap.size := by have := hb.size; omega
    have HX2 := Lib.hid (HX.out.later hb hlt1)
    obtain ⟨z1, z2, z5, -, -⟩ := HX2.out.few
    clear hb
    unfold oneVal
    go_wp2_with fail
    refine (HOF.out _ HB2.out).mono ?_
    rintro e w3 ⟨rfl, hb⟩
    have HB3 := Lib.hid (HB2.out.trans (hb.mono HB2.out.size))
    have HX3 := Lib.hid (HX2.out.later hb hlt2)
    obtain ⟨y1, y2, y5, -, -⟩ := HX3.out.few
    clear hb z1 z2 z5
    have hld := nodeLoad HX3.out
    simp only [Option.isSome_some]
    by_cases c1 : d.ms = -1
    · have c1' : (d.ms == -1) = true := by rw [beq_iff_eq]; exact c1
      by_cases c2 : who = d.id
      · have c2' : (who == d.id) = true := by rw [beq_iff_eq]; exact c2
        have HZ : Hid (R = Rt.ownerS d x ks) := Lib.hid (by rw [HR2.out, if_pos ⟨c1, c2⟩])
        clear c1 c2 HR2 HRED hld
        go_upto_region 11 with (fail)
        go_wp2_with (refine wpList_load_row rfl 36 (.tmp 3) rfl w.heap.size rfl _ n.cells (0, 0) _ HX3.out Tryd.underlying36 rfl (by kernel_rfl) ?_)
        refine (HOW.out _ HB3.out).mono ?_
        rintro e w4 ⟨rfl, hb⟩
        have HB4 := Lib.hid (HB3.out.trans (hb.mono HB3.out.size))
        clear hb
        go_wp2_with fail
        go_ret
        exact ⟨by rw [HZ.out]; rfl, HB4.out⟩
      · have c2' : (who == d.id) = false := by rw [beq_eq_false_iff_ne]; exact c2
        cases asking with
        | true =>
          have HZ : Hid (R = []) := Lib.hid (by rw [HR2.out, if_neg (fun h => c2 h.2), if_pos ⟨c1, rfl⟩])
          clear c1 c2 HR2 HRED
          go_wp2_with fail
          go_ret
          exact ⟨by rw [HZ.out]; rfl, HB3.out⟩
        | false =>
          have HZ : Hid (R = Rt.redir Rt.mvd x who) := Lib.hid (by rw [HR2.out, if_neg (fun h => c2 h.2), if_neg (fun h => by cases h.2)])
          clear c1 c2 HR2
          go_wp2_with fail
          refine (HRED.out _ HB3.out).mono ?_
          rintro e w4 ⟨rfl, hb⟩
          have HB4 := Lib.hid (HB3.out.trans (hb.mono HB3.out.size))
          clear hb
          go_wp2_with fail
          go_ret
          exact ⟨by rw [HZ.out]; rfl, HB4.out⟩
    · have c1' : (d.ms == -1) = false := by rw [beq_eq_false_iff_ne]; exact c1
      have HZ : Hid (R = Rt.redir Rt.mvd x who) := Lib.hid (by rw [HR2.out, if_neg (fun h => c1 h.1), if_neg (fun h => c1 h.1)])
      clear c1 HR2
      go_wp2_with fail
      refine (HRED.out _ HB3.out).mono ?_
      rintro e w4 ⟨rfl, hb⟩
      have HB4 := Lib.hid (HB3.out.trans (hb.mono HB3.out.size))
      clear hb
      go_wp2_with fail
      go_ret
      exact ⟨by rw [HZ.out]; rfl, HB4.out⟩
end Go.Proofs.YtahmddopbmjepaaDoor
