/- The contract of the program's Decide (14.1). The contract of the program's Read (14.2). The law's example: awake (14). -/
import Derived.Test.YtahmddopbmjepaaDoorRD20
import Derived.Test.YtahmddopbmjepaaDoorRD21
import Derived.Test.YtahmddopbmjepaaDoorRD22
import Derived.Laws.Rows
import Derived.Test.YtahmddopbmjepaaDoorRD14
namespace Go.Proofs.YtahmddopbmjepaaDoor
open Go.RowKit Go.Shelf
attribute [local go_sem] Oper.semAt_some
set_option linter.unusedVariables false
set_option linter.unusedSimpArgs false

def strsOf (ks : List (List UInt8)) : List ByteArray := ks.map fun k => ⟨k.toArray⟩
theorem Wds.strs {w : World} {a : Option Addr} {cap : Nat} {ks : List (List UInt8)} (h : Wds w a cap ks) : Strs w a cap (strsOf ks) := by
  obtain ⟨h0, h1, h2, h3⟩ := h
  refine ⟨by unfold strsOf; rw [List.length_map]; exact h0, ?_, ?_⟩
  · intro s hs
    obtain ⟨k, hk, rfl⟩ := List.mem_map.1 hs
    have := h2 k hk
    show k.toArray.size ≤ maxLen
    unfold maxLen
    simp; omega
  · rcases h3 with rfl | ⟨b, off, ha, hb, hc⟩
    · exact .inl rfl
    · refine .inr ⟨b, off, ha, hb, fun k hk => ?_⟩
      unfold strsOf at hk ⊢
      rw [List.length_map] at hk
      rw [hc k hk]
      simp [List.getD, hk]
theorem one_of (ks : List (List UInt8)) : (Rt.one ks < 0 ∧ oneOf (strsOf ks) = none) ∨ ∃ n : Nat, Rt.one ks = n ∧ n < 16384 ∧ oneOf (strsOf ks) = some n := by
  cases ks with
  | nil => exact .inl ⟨by decide, rfl⟩
  | cons k r =>
    have e : oneOf (strsOf (k :: r)) = if r.all (fun x => decide (slotOf x = slotOf k)) then some (slotOf k) else none := by
      show (if ((strsOf r).all fun x => slotOf x.data.toList == slotOf k.toArray.toList) then some (slotOf k.toArray.toList) else none) = _
      have : ((strsOf r).all fun x => slotOf x.data.toList == slotOf k.toArray.toList) = r.all (fun x => decide (slotOf x = slotOf k)) := by
        unfold strsOf
        rw [List.all_map]
        rfl
      rw [this]
    have f : Rt.one (k :: r) = if r.all (fun x => decide (slotOf x = slotOf k)) then (slotOf k : Int) else -1 := rfl
    rw [e, f]
    split
    · exact .inr ⟨slotOf k, rfl, by unfold slotOf; omega, rfl⟩
    · exact .inl ⟨by decide, rfl⟩

theorem nodeLoad {w : World} {B : Nat} {n : NV} (h : NdBox w B n) : (loadVar 36 ⟨B, 0, none⟩).run Tryd.prog w = .ok (.agg n.cells) w :=
  run_loadVar_row w B _ _ n.cells (0, 0) _ h Tryd.underlying36 rfl (by kernel_rfl)

set_option maxRecDepth 100000 in
set_option maxHeartbeats 8000000 in
theorem decide_any (n : NV) (d : Rt.Nd) (ps : List Lp) (asking : Bool) (aK : Option Addr) (cK : Nat) (ks : List (List UInt8)) (w : World) (hE : Env w) (hN : Node w n d ps) (hn : ps.length ≤ 1000000) (hu : AscL ps) (hsm : ∀ p ∈ ps, p.p.Sm) (hm : d.mv.length ≤ 1000000) (hv : Ow.VL d.cl)
    (hK : Wds w aK cK ks) (hk1 : ks.length ≤ 1000000) :
    Calls Tryd.prog 12 #[.agg n.cells, .slice aK ks.length cK, .bool asking] w fun e w' => e = .returned (.string ⟨(Rt.decideS d ks asking).toArray⟩) ∧ Below w.heap.size w w' := by
  obtain ⟨w1, hw1⟩ : ∃ w1, w.alloc (.cells n.cells 36) = w1 := ⟨_, rfl⟩
  have hx1 : NdBox w1 w.heap.size n := by rw [← hw1]; exact NdBox.new w n
  have hB1 : Below w.heap.size w w1 := by rw [← hw1]; exact (Below.refl _ w).alloc (Nat.le_refl _) _
  have hlt1 : w.heap.size < w1.heap.size := by rw [← hw1]; simp
  obtain ⟨R, hR⟩ : ∃ R, Rt.decideS d ks asking = R := ⟨_, rfl⟩
  rw [hR]
  have HX := Lib.hid hx1
  have HB := Lib.hid hB1
  have hkI : (ks.length : Int) ≤ 1000000 := by omega
  by_cases h0 : ks = []
  · have HZ : Hid (R = []) := Lib.hid (by rw [← hR]; unfold Rt.decideS; rw [if_pos h0])
    subst h0
    clear hR hN hE hu hsm hK hx1 hB1
    go_enter Tryd.func12, Tryd.ntmps12
    go_wp2_with fail
    go_ret
    exact ⟨by rw [HZ.out]; rfl, HB.out⟩
  have hk0 : 0 < ks.length := List.length_pos_iff.2 h0
  have hkI0 : ((ks.length : Int) == 0) = false := by rw [beq_eq_false_iff_ne]; omega
  have hkI1 : (0 : Int) < (ks.length : Int) := by omega
  have hO := one_any aK cK (strsOf ks) w1 (by unfold strsOf; rw [List.length_map]; omega) (hK.later hB1).strs
  rw [show (strsOf ks).length = ks.length from List.length_map ..] at hO
  rcases one_of ks with ⟨ho, hoo⟩ | ⟨x, ho, hx, hoo⟩
  · rw [hoo] at hO
    have HO := Lib.hid hO
    have HZ : Hid (R = Rt.cross) := Lib.hid (by rw [← hR]; unfold Rt.decideS; rw [if_neg h0, if_pos ho])
    clear hR hN hE hu hsm hK hx1 hB1 hO ho hoo
    go_enter Tryd.func12, Tryd.ntmps12
    go_wp2_with fail
    refine (HO.out).mono ?_
    rintro e w2 ⟨rfl, hb⟩
    have HB2 := Lib.hid (HB.out.trans (hb.mono HB.out.size))
    clear hb
    unfold oneVal
    go_wp2_with fail
    go_ret
    exact ⟨by rw [HZ.out]; rfl, HB2.out⟩
  rw [hoo] at hO
  have HO := Lib.hid hO
  have hid := hN.id
  have hms := hN.ms
  have hcln := hN.cln
  have hxI : (x : Int) < 16384 := by omega
  have HOF : Hid (∀ W, Below w.heap.size w W → Calls Tryd.prog 27 #[.slice n.cl.a d.cl.length n.cl.c, .int .i64 (x : Int)] W fun e w' => e = .returned (.tuple #[.int .i64 (Ow.zo (Ow.own d.cl (x : Int))).1, .int .i64 (Ow.zo (Ow.own d.cl (x : Int))).2, .bool (Ow.own d.cl (x : Int)).isSome]) ∧ Below W.heap.size W w') := Lib.hid fun W hb => ow_of_any n.cl.a n.cl.c d.cl x W (hN.cl.later hb) hv
  have HOW : Hid (∀ W, Below w.heap.size w W → Calls Tryd.prog 28 #[.agg n.cells, .int .i64 (x : Int), .slice aK ks.length cK] W fun e w' => e = .returned (.string ⟨(Rt.ownerS d x ks).toArray⟩) ∧ Below W.heap.size W w') := Lib.hid fun W hb => atOwner_any n d ps x aK cK ks W (hE.later hb) (hN.later hb) hn hu hsm hm (hK.later hb) hk0 hk1
  have hR2 : R = match Ow.own d.cl (x : Int) with
      | none => Rt.down
      | some o => if d.ms = -1 ∧ o.1 = d.id then Rt.ownerS d x ks else if d.ms = -1 ∧ asking = true then [] else Rt.redir Rt.mvd x o.1 := by
    rw [← hR]; unfold Rt.decideS; rw [if_neg h0, if_neg (by omega), ho]; rfl
  obtain ⟨-, z2, z5, -, -⟩ := (show _ ∧ _ ∧ _ ∧ _ ∧ _ from hx1.few)
  have HE := Lib.hid hE
  cases hown : Ow.own d.cl (x : Int) with
  | none =>
    rw [hown] at HOF hR2
    have HZ := Lib.hid hR2
    clear hR hR2 hN hE hu hsm hK hx1 hB1 hO ho hoo hown z2 z5
    go_enter Tryd.func12, Tryd.ntmps12
    go_wp2_with fail
    refine (HO.out).mono ?_
    rintro e w2 ⟨rfl, hb⟩
    have HB2 := Lib.hid (HB.out.trans (hb.mono HB.out.size))
    obtain ⟨z1, z2, z5, -, -⟩ := (HX.out.later hb hlt1).few
    clear hb
    unfold oneVal
    go_wp2_with fail
    refine (HOF.out _ HB2.out).mono ?_
    rintro e w3 ⟨rfl, hb⟩
    have HB3 := Lib.hid (HB2.out.trans (hb.mono HB2.out.size))
    clear hb
    go_wp2_with fail
    go_ret
    exact ⟨by rw [HZ.out]; rfl, HB3.out⟩
  | some o =>
    obtain ⟨who, ep⟩ := o
    have hrange := Ow.own_range hv hown
    simp only at hrange
    have hwho : 0 ≤ who ∧ who < 8 := by omega
    rw [hown] at HOF hR2
    simp only [Ow.zo] at HOF
    simp only at hR2
    have HRED : Hid (∀ W : World, Below w.heap.size w W → Calls Tryd.prog 29 #[.string ⟨#[77, 79, 86, 69, 68]⟩, .int .i64 (x : Int), .int .i64 who] W fun e w' => e = .returned (.string ⟨(Rt.redir Rt.mvd x who).toArray⟩) ∧ Below W.heap.size W w') :=
      Lib.hid fun W hb => redir_any Rt.mvd x who W (HE.out.later hb) (by decide) (by omega) (by omega) (by omega) (by omega)
    have HR2 := Lib.hid hR2
    clear hR hR2 hN hE hu hsm hK hx1 hB1 hO ho hoo hown z2 z5 hrange
    go_enter Tryd.func12, Tryd.ntmps12
    go_wp2_with fail
    refine (HO.out).mono ?_
    rintro e w2 ⟨rfl, hb⟩
    have HB2 := Lib.hid (HB.out.trans (hb.mono HB.out.size))
    have hlt2 : w.heap.size < w2.heap.size := by have := hb.size; omega
    have HX2 := Lib.hid (HX.out.later hb hlt1)
    obtain ⟨z1, z2, z5, -, -⟩ := HX2.out.few
    clear hb
    unfold oneVal
    go_wp2_with fail
    refine (HOF.out _ HB2.out).mono ?_
    rintro e w3 ⟨rfl, hb⟩
    have HB3 := Lib.hid (HB2.out.trans (hb.mono HB2.out.size))
    have HX3 := Lib.hid (HX2.out.later hb hlt2)
    obtain ⟨y1, y2, y5, -, -⟩ := HX3.out.few
    clear hb z1 z2 z5
    have hld := nodeLoad HX3.out
    simp only [Option.isSome_some]
    by_cases c1 : d.ms = -1
    · have c1' : (d.ms == -1) = true := by rw [beq_iff_eq]; exact c1
      by_cases c2 : who = d.id
      · have c2' : (who == d.id) = true := by rw [beq_iff_eq]; exact c2
        have HZ : Hid (R = Rt.ownerS d x ks) := Lib.hid (by rw [HR2.out, if_pos ⟨c1, c2⟩])
        clear c1 c2 HR2 HRED hld
        go_upto_region 11 with (fail)
        go_wp2_with (refine wpList_load_row rfl 36 (.tmp 3) rfl w.heap.size rfl _ n.cells (0, 0) _ HX3.out Tryd.underlying36 rfl (by kernel_rfl) ?_)
        refine (HOW.out _ HB3.out).mono ?_
        rintro e w4 ⟨rfl, hb⟩
        have HB4 := Lib.hid (HB3.out.trans (hb.mono HB3.out.size))
        clear hb
        go_wp2_with fail
        go_ret
        exact ⟨by rw [HZ.out]; rfl, HB4.out⟩
      · have c2' : (who == d.id) = false := by rw [beq_eq_false_iff_ne]; exact c2
        cases asking with
        | true =>
          have HZ : Hid (R = []) := Lib.hid (by rw [HR2.out, if_neg (fun h => c2 h.2), if_pos ⟨c1, rfl⟩])
          clear c1 c2 HR2 HRED
          go_wp2_with fail
          go_ret
          exact ⟨by rw [HZ.out]; rfl, HB3.out⟩
        | false =>
          have HZ : Hid (R = Rt.redir Rt.mvd x who) := Lib.hid (by rw [HR2.out, if_neg (fun h => c2 h.2), if_neg (fun h => by cases h.2)])
          clear c1 c2 HR2
          go_wp2_with fail
          refine (HRED.out _ HB3.out).mono ?_
          rintro e w4 ⟨rfl, hb⟩
          have HB4 := Lib.hid (HB3.out.trans (hb.mono HB3.out.size))
          clear hb
          go_wp2_with fail
          go_ret
          exact ⟨by rw [HZ.out]; rfl, HB4.out⟩
    · have c1' : (d.ms == -1) = false := by rw [beq_eq_false_iff_ne]; exact c1
      have HZ : Hid (R = Rt.redir Rt.mvd x who) := Lib.hid (by rw [HR2.out, if_neg (fun h => c1 h.1), if_neg (fun h => c1 h.1)])
      clear c1 HR2
      go_wp2_with fail
      refine (HRED.out _ HB3.out).mono ?_
      rintro e w4 ⟨rfl, hb⟩
      have HB4 := Lib.hid (HB3.out.trans (hb.mono HB3.out.size))
      clear hb
      go_wp2_with fail
      go_ret
      exact ⟨by rw [HZ.out]; rfl, HB4.out⟩
end Go.Proofs.YtahmddopbmjepaaDoor
namespace Go.Proofs.YtahmddopbmjepaaDoor
open Go.RowKit Go.Shelf
attribute [local go_sem] Oper.semAt_some

/-- strings.Cut at a blank, whichever way it goes. -/
theorem cut_any (x : List UInt8) (w : World) (hx : x.length ≤ 1000000) :
    ∃ (p q : List UInt8) (b : Bool), (match Tags.split 32 x with | none => (x, ([] : List UInt8)) | some y => y) = (p, q) ∧ p.length ≤ x.length ∧ q.length ≤ x.length ∧
      Calls Tryd.prog 33 #[.string ⟨x.toArray⟩, .string ⟨#[32]⟩] w fun e w' => e = .returned (.tuple #[.string ⟨p.toArray⟩, .string ⟨q.toArray⟩, .bool b]) ∧ Below w.heap.size w w' := by
  have hsz : (⟨x.toArray⟩ : ByteArray).size = x.length := by simp [ByteArray.size]
  cases hs : Tags.split 32 x with
  | none =>
    refine ⟨x, [], false, rfl, Nat.le_refl _, Nat.zero_le _, (cut_none ⟨x.toArray⟩ 32 w (by simpa using hs)).mono ?_⟩
    rintro e w' ⟨rfl, rfl⟩
    exact ⟨rfl, Below.refl _ _⟩
  | some y =>
    obtain ⟨a, b⟩ := y
    have h1 := congrArg List.length (Tags.split_some hs).1
    simp at h1
    exact ⟨a, b, true, rfl, by omega, by omega, cut_some ⟨x.toArray⟩ 32 a b w (by rw [hsz]; unfold maxLen; omega) (by simpa using hs)⟩

theorem rt_str_ne {a b : List UInt8} (h : a ≠ b) : (a == b) = false := by
  rw [beq_eq_false_iff_ne]
  exact h

set_option maxRecDepth 100000 in
set_option maxHeartbeats 4000000 in
theorem read_any (s : List UInt8) (w : World) (hE : Env w) (hs : s.length ≤ 1000000) :
    Calls Tryd.prog 14 #[.string ⟨s.toArray⟩] w fun e w' => ∃ W a b, Rt.ReadOf s W a b ∧ e = .returned (.tuple #[.string ⟨W.toArray⟩, .int .i64 a, .int .i64 b]) ∧ Below w.heap.size w w' := by
  obtain ⟨p1, q1, b1, e1, l1, l2, h1⟩ := cut_any s w hs
  obtain ⟨p2, q2, b2, e2, l3, l4, -⟩ := cut_any q1 w (by omega)
  have hnums : Rt.nums s = q1 := by
    unfold Rt.nums
    cases hc : Tags.split 32 s with
    | none => rw [hc] at e1; exact congrArg Prod.snd e1
    | some y => rw [hc] at e1; exact congrArg Prod.snd e1
  have hfirst : Rt.first s = p2 := by
    unfold Rt.first
    rw [hnums]
    cases hc : Tags.split 32 q1 with
    | none => rw [hc] at e2; exact congrArg Prod.fst e2
    | some y => rw [hc] at e2; exact congrArg Prod.fst e2
  have hsecond : Rt.second s = q2 := by
    unfold Rt.second
    rw [hnums]
    cases hc : Tags.split 32 q1 with
    | none => rw [hc] at e2; exact congrArg Prod.snd e2
    | some y => rw [hc] at e2; exact congrArg Prod.snd e2
  have H1 := Lib.hid h1
  have H2 : Hid (∀ W, ∃ b : Bool, Calls Tryd.prog 33 #[.string ⟨q1.toArray⟩, .string ⟨#[32]⟩] W fun e w' => e = .returned (.tuple #[.string ⟨p2.toArray⟩, .string ⟨q2.toArray⟩, .bool b]) ∧ Below W.heap.size W w') := Lib.hid fun W => by
    obtain ⟨p3, q3, b3, e3, -, -, h3⟩ := cut_any q1 W (by omega)
    rw [e2] at e3
    injection e3 with e3 e4
    subst e3 e4
    exact ⟨b3, h3⟩
  have H3 : Hid (∀ W, Env W → Calls Tryd.prog 34 #[.string ⟨p2.toArray⟩, .int .i64 16384] W fun e w' => ∃ n : Nat, Rt.Low p2 16384 n ∧ e = .returned (.int .i64 n) ∧ Below W.heap.size W w') := Lib.hid fun W h => below_any p2 16384 W h (by omega) (by omega) (by omega)
  have H4 : Hid (∀ W, Env W → Calls Tryd.prog 34 #[.string ⟨q2.toArray⟩, .int .i64 8] W fun e w' => ∃ n : Nat, Rt.Low q2 8 n ∧ e = .returned (.int .i64 n) ∧ Below W.heap.size W w') := Lib.hid fun W h => below_any q2 8 W h (by omega) (by omega) (by omega)
  have HC : Hid (∀ a b : Nat, Rt.Low p2 16384 a → Rt.Low q2 8 b → (s = Rt.redir Rt.mvd a b → Rt.ReadOf s Rt.mvd a b) ∧ (s = Rt.redir Rt.ask a b → Rt.ReadOf s Rt.ask a b) ∧ (s ≠ Rt.redir Rt.mvd a b → s ≠ Rt.redir Rt.ask a b → Rt.ReadOf s [] 0 0)) := Lib.hid fun a b ha hb => Rt.read_case (by rw [hfirst]; exact ha) (by rw [hsecond]; exact hb)
  have HE := Lib.hid hE
  clear h1 e1 e2 hnums hfirst hsecond hE l1 l2 l3 l4
  go_enter Tryd.func14, Tryd.ntmps14
  go_wp2_with fail
  refine (H1.out).mono ?_
  rintro e w1 ⟨rfl, hb⟩
  have HB1 := Lib.hid hb
  clear hb
  obtain ⟨b3, h3⟩ := H2.out w1
  have H5 := Lib.hid h3
  clear h3
  go_wp2_with fail
  refine (H5.out).mono ?_
  rintro e w2 ⟨rfl, hb⟩
  have HB2 := Lib.hid (HB1.out.trans (hb.mono HB1.out.size))
  clear hb
  go_wp2_with fail
  refine (H3.out _ (HE.out.later HB2.out)).mono ?_
  rintro e w3 ⟨a, ha, rfl, hb⟩
  have HB3 := Lib.hid (HB2.out.trans (hb.mono HB2.out.size))
  have HA := Lib.hid ha
  have ha1 := ha.1
  clear hb ha
  go_wp2_with fail
  refine (H4.out _ (HE.out.later HB3.out)).mono ?_
  rintro e w4 ⟨b, hb0, rfl, hb⟩
  have HB4 := Lib.hid (HB3.out.trans (hb.mono HB3.out.size))
  obtain ⟨c1, c2, c3⟩ := HC.out a b HA.out hb0
  have HC1 := Lib.hid c1
  have HC2 := Lib.hid c2
  have HC3 := Lib.hid c3
  have hb1 := hb0.1
  obtain ⟨x1, hx1⟩ : ∃ x, Rt.redir Rt.mvd a b = x := ⟨_, rfl⟩
  obtain ⟨x2, hx2⟩ : ∃ x, Rt.redir Rt.ask a b = x := ⟨_, rfl⟩
  have HR1 : Hid (∀ W, Env W → Calls Tryd.prog 29 #[.string ⟨#[77, 79, 86, 69, 68]⟩, .int .i64 a, .int .i64 b] W fun e w' => e = .returned (.string ⟨x1.toArray⟩) ∧ Below W.heap.size W w') := Lib.hid fun W h => by
    rw [← hx1]; exact redir_any Rt.mvd a b W h (by decide) (by omega) (by omega) (by omega) (by omega)
  have HR2 : Hid (∀ W, Env W → Calls Tryd.prog 29 #[.string ⟨#[65, 83, 75]⟩, .int .i64 a, .int .i64 b] W fun e w' => e = .returned (.string ⟨x2.toArray⟩) ∧ Below W.heap.size W w') := Lib.hid fun W h => by
    rw [← hx2]; exact redir_any Rt.ask a b W h (by decide) (by omega) (by omega) (by omega) (by omega)
  rw [hx1] at HC1 HC3
  rw [hx2] at HC2 HC3
  clear hb hb0 c1 c2 c3 hx1 hx2 HC HA
  by_cases d1 : s = x1
  · have HZ := Lib.hid (HC1.out d1)
    subst d1
    have hq : (s == s) = true := by simp
    clear HC1 HC2 HC3 HR2
    go_wp2_with fail
    refine (HR1.out _ (HE.out.later HB4.out)).mono ?_
    rintro e w5 ⟨rfl, hb⟩
    have HB5 := Lib.hid (HB4.out.trans (hb.mono HB4.out.size))
    clear hb
    go_wp2
    go_ret3
    exact ⟨_, _, _, HZ.out, rfl, HB5.out⟩
  · have hq1 := rt_str_ne d1
    by_cases d2 : s = x2
    · have HZ := Lib.hid (HC2.out d2)
      subst d2
      have hq : (s == s) = true := by simp
      clear HC1 HC2 HC3
      go_wp2_with fail
      refine (HR1.out _ (HE.out.later HB4.out)).mono ?_
      rintro e w5 ⟨rfl, hb⟩
      have HB5 := Lib.hid (HB4.out.trans (hb.mono HB4.out.size))
      clear hb
      go_wp2_with fail
      refine (HR2.out _ (HE.out.later HB5.out)).mono ?_
      rintro e w6 ⟨rfl, hb⟩
      have HB6 := Lib.hid (HB5.out.trans (hb.mono HB5.out.size))
      clear hb
      go_wp2
      go_ret3
      exact ⟨_, _, _, HZ.out, rfl, HB6.out⟩
    · have hq2 := rt_str_ne d2
      have HZ := Lib.hid (HC3.out d1 d2)
      clear HC1 HC2 HC3
      go_wp2_with fail
      refine (HR1.out _ (HE.out.later HB4.out)).mono ?_
      rintro e w5 ⟨rfl, hb⟩
      have HB5 := Lib.hid (HB4.out.trans (hb.mono HB4.out.size))
      clear hb
      go_wp2_with fail
      refine (HR2.out _ (HE.out.later HB5.out)).mono ?_
      rintro e w6 ⟨rfl, hb⟩
      have HB6 := Lib.hid (HB5.out.trans (hb.mono HB5.out.size))
      clear hb
      go_wp2
      go_ret3
      exact ⟨_, _, _, HZ.out, rfl, HB6.out⟩
end Go.Proofs.YtahmddopbmjepaaDoor
namespace Go.Proofs.YtahmddopbmjepaaDoor
open Go.RowKit Go.Shelf
attribute [local go_sem] Oper.semAt_some
set_option linter.unusedVariables false
set_option linter.unusedSimpArgs false

def SV.z : SV := ⟨none, 0, 0⟩
/-- a node of which a number, whom it follows, and three lists are told. -/
def NV.of (ct id ms : Int) (cl db mv : SV) : NV := ⟨ct, id, ms, 0, 0, cl, db, mv, 0, SV.z, 0, 0, 0, SV.z, 0, 0, 0, SV.z, SV.z, 0, SV.z, 0⟩
theorem wds_lit (w : World) (k : List UInt8) (hk : k.length ≤ 9223372036854775807) : Wds (w.alloc (.cells #[.string ⟨k.toArray⟩] 9)) (some ⟨w.heap.size, 0, none⟩) 1 [k] := by
  refine ⟨by simp, by decide, by simpa using hk, .inr ⟨_, 0, rfl, by simp, fun j hj => ?_⟩⟩
  obtain rfl : j = 0 := by simpa using hj
  rw [World.cell?_alloc_new]; rfl
theorem rt_asc_nil : AscL [] := fun i j _ hj => by simp at hj
theorem node_empty (w : World) (ct id ms : Int) (h0 : -9223372036854775808 ≤ id) (h1 : id ≤ 9223372036854775807) (h2 : -9223372036854775808 ≤ ms) (h3 : ms ≤ 9223372036854775807) : Node w (NV.of ct id ms SV.z SV.z SV.z) ⟨id, ms, [], fun k => (rawL [] k).isSome, []⟩ [] where
  id := rfl
  ms := rfl
  idr := ⟨h0, h1⟩
  msr := ⟨h2, h3⟩
  cln := rfl
  cl := cls_nil w
  dbn := rfl
  db := prs_nil w
  has := rfl
  mvn := rfl
  mv := mvs_nil w

theorem awake_d1 (w : World) (hE : Env w) : Calls Tryd.prog 12 #[.agg #[.int .i64 0, .int .i64 0, .int .i64 0, .int .i64 0, .int .i64 0, .slice none 0 0, .slice none 0 0, .slice none 0 0, .int .i64 0, .slice none 0 0, .int .i64 0, .int .i64 0, .int .i64 0, .slice none 0 0, .int .i64 0, .int .i64 0, .int .i64 0, .slice none 0 0, .slice none 0 0, .int .i64 0, .slice none 0 0, .int .i64 0], .slice none 0 0, .bool false] w fun e w' => e = .returned (.string ⟨#[]⟩) ∧ Below w.heap.size w w' :=
  decide_any (NV.of 0 0 0 SV.z SV.z SV.z) _ [] false none 0 [] w hE (node_empty w 0 0 0 (by decide) (by decide) (by decide) (by decide)) (by decide) rt_asc_nil (by simp) (by decide) trivial (wds_nil w) (by decide)

theorem awake_d2 (w : World) (hE : Env w) : Calls Tryd.prog 12 #[.agg #[.int .i64 0, .int .i64 0, .int .i64 (-1), .int .i64 0, .int .i64 0, .slice none 0 0, .slice none 0 0, .slice none 0 0, .int .i64 0, .slice none 0 0, .int .i64 0, .int .i64 0, .int .i64 0, .slice none 0 0, .int .i64 0, .int .i64 0, .int .i64 0, .slice none 0 0, .slice none 0 0, .int .i64 0, .slice none 0 0, .int .i64 0], .slice (some ⟨w.heap.size, 0, none⟩) 1 1, .bool false] (w.alloc (.cells #[.string ⟨#[97]⟩] 9)) fun e w' => e = .returned (.string ⟨#[67, 76, 85, 83, 84, 69, 82, 68, 79, 87, 78]⟩) ∧ Below w.heap.size w w' := by
  have hb : Below w.heap.size w (w.alloc (.cells #[.string ⟨#[97]⟩] 9)) := (Below.refl _ w).alloc (Nat.le_refl _) _
  have h := decide_any (NV.of 0 0 (-1) SV.z SV.z SV.z) _ [] false _ 1 [[97]] _ (hE.later hb) (node_empty _ 0 0 (-1) (by decide) (by decide) (by decide) (by decide)) (by decide) rt_asc_nil (by simp) (by decide) trivial (wds_lit w [97] (by decide)) (by decide)
  refine h.mono ?_
  rintro e w' ⟨he, hb2⟩
  refine ⟨?_, hb.trans (hb2.mono hb.size)⟩
  rw [he]
  have e1 : Rt.decideS ⟨0, -1, [], fun k => (rawL [] k).isSome, []⟩ [[97]] false = Rt.down := by
    unfold Rt.decideS
    rw [if_neg (by decide), if_neg (show ¬ Rt.one [[97]] < 0 from by
      show ¬ ((slotOf [97] : Nat) : Int) < 0
      omega)]
    rfl
  rw [e1]
  rfl

theorem ex_sends : Rt.Sends [77, 79, 86, 69, 68, 32, 53, 32, 50] Rt.mvd 5 2 := by
  refine ⟨.inl rfl, by decide, by decide, ?_⟩
  have h5 : Dig.dec ((5 : Nat) : Int) = [53] := by rw [Rt.dec_nat, Dig.digs_small (by omega)]; rfl
  have h2 : Dig.dec ((2 : Nat) : Int) = [50] := by rw [Rt.dec_nat, Dig.digs_small (by omega)]; rfl
  unfold Rt.redir
  rw [h5, h2]
  rfl

set_option maxRecDepth 100000 in
set_option maxHeartbeats 4000000 in
theorem awake_any (w : World) (hE : Env w) : Calls Tryd.prog 11 #[] w fun e w' => e = .returned (.bool true) ∧ Below w.heap.size w w' := by
  have HR : Hid (Calls Tryd.prog 14 #[.string ⟨#[77, 79, 86, 69, 68, 32, 53, 32, 50]⟩] w fun e w' => e = .returned (.tuple #[.string ⟨#[77, 79, 86, 69, 68]⟩, .int .i64 5, .int .i64 2]) ∧ Below w.heap.size w w') := Lib.hid ((read_any [77, 79, 86, 69, 68, 32, 53, 32, 50] w hE (by decide)).mono (by
    rintro e w' ⟨W, a, b, h, rfl, hb⟩
    obtain ⟨rfl, rfl, rfl⟩ := h.unique (.inl ⟨5, 2, rfl, rfl, ex_sends⟩)
    exact ⟨rfl, hb⟩))
  have HD1 := Lib.hid (fun W (h : Env W) => awake_d1 W h)
  have HD2 := Lib.hid (fun W (h : Env W) => awake_d2 W h)
  have HE := Lib.hid hE
  clear hE
  go_enter Tryd.func11, Tryd.ntmps11
  go_wp2_with fail
  refine (HR.out).mono ?_
  rintro e w1 ⟨rfl, hb⟩
  have HB1 := Lib.hid hb
  clear hb
  go_wp2_with fail
  refine (HD1.out _ (HE.out.later HB1.out)).mono ?_
  rintro e w2 ⟨rfl, hb⟩
  have HB2 := Lib.hid (HB1.out.trans (hb.mono HB1.out.size))
  clear hb
  go_wp2_with fail
  refine (HD2.out _ (HE.out.later HB2.out)).mono ?_
  rintro e w3 ⟨rfl, hb⟩
  have HB3 := Lib.hid (HB2.out.trans (hb.mono HB2.out.size))
  clear hb
  go_wp2_with fail
  go_ret
  exact ⟨rfl, HB3.out⟩
end Go.Proofs.YtahmddopbmjepaaDoor
