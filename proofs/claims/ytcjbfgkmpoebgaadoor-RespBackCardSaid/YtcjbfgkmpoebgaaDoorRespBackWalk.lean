/- The walk of the law RespBack. -/
import Derived.Test.YtcjbfgkmpoebgaaDoorRpTurn
namespace Go.Proofs.YtcjbfgkmpoebgaaDoor
open Go.RowKit Go.Shelf
attribute [local go_sem] Oper.semAt_some
set_option linter.unusedVariables false
set_option linter.unusedSimpArgs false

set_option maxRecDepth 100000 in
set_option maxHeartbeats 8000000 in
theorem respBack_go (a0 a2 a3 : Option Addr) (c0 c2 c3 : Nat) (ns ah bh s : List UInt8) (cut at_ by_ : Int) (w : World) (hb0 : Bt (fun _ => True) w a0 c0 ns) (hb2 : Bt (fun _ => True) w a2 c2 ah) (hb3 : Bt (fun _ => True) w a3 c3 bh)
    (hn2 : a2 = none → c2 = 0) (hn3 : a3 = none → c3 = 0) (hsl : s.length ≤ 9223372036854775807) (hcut : 0 ≤ cut ∧ cut ≤ 65535) (hat : 0 ≤ at_ ∧ at_ ≤ 65535) (hby : 0 ≤ by_ ∧ by_ ≤ 255) (henv : Env w) :
    Calls Tryd.prog 5 #[.slice a0 ns.length c0, .string ⟨s.toArray⟩, .slice a2 ah.length c2, .slice a3 bh.length c3, .int .u16 cut, .int .u16 at_, .int .u8 by_] w fun e w' => e = .returned (.bool true) ∧ Below w.heap.size w w' := by
  have HENV := Lib.hid henv
  have HB0 := Lib.hid hb0
  have HB2 := Lib.hid hb2
  have HB3 := Lib.hid hb3
  have HN2 := Lib.hid hn2
  have HN3 := Lib.hid hn3
  have q0 := hb0.1
  have q1 := hb0.2.1
  have q2 := hb2.1
  have q3 := hb2.2.1
  have q4 := hb3.1
  have q5 := hb3.2.1
  obtain ⟨u0, u1⟩ := hcut
  obtain ⟨u2, u3⟩ := hat
  obtain ⟨u4, u5⟩ := hby
  clear henv hb0 hb2 hb3 hn2 hn3
  by_cases hbig : 30 < ns.length ∨ (¬ 30 < ns.length ∧ 60 < s.length) ∨ (¬ 30 < ns.length ∧ ¬ 60 < s.length ∧ 60 < ah.length) ∨ (¬ 30 < ns.length ∧ ¬ 60 < s.length ∧ ¬ 60 < ah.length ∧ 60 < bh.length) ∨ (¬ 30 < ns.length ∧ ¬ 60 < s.length ∧ ¬ 60 < ah.length ∧ ¬ 60 < bh.length ∧ by_ = 0)
  · rcases hbig with h | ⟨h, h1⟩ | ⟨h, h1, h2⟩ | ⟨h, h1, h2, h3⟩ | ⟨h, h1, h2, h3, h4⟩
    case inl => 
      have hI : (30 : Int) < (ns.length : Int) := by omega
      go_enter Tryd.func5, Tryd.ntmps5
      go_wp2_with fail
      refine (awake_any w HENV.out).mono ?_
      rintro e w1 ⟨rfl, hb⟩
      go_wp2
      go_ret
      exact ⟨rfl, hb⟩
    all_goals
      have hI : ¬ (30 : Int) < (ns.length : Int) := by omega
      first
        | have hI1 : (60 : Int) < (s.length : Int) := by omega
        | (have hI1 : ¬ (60 : Int) < (s.length : Int) := by omega
           first
             | have hI2 : (60 : Int) < (ah.length : Int) := by omega
             | (have hI2 : ¬ (60 : Int) < (ah.length : Int) := by omega
                first
                  | have hI3 : (60 : Int) < (bh.length : Int) := by omega
                  | have hI3 : ¬ (60 : Int) < (bh.length : Int) := by omega))
      go_enter Tryd.func5, Tryd.ntmps5
      go_wp2_with fail
      refine (awake_any w HENV.out).mono ?_
      rintro e w1 ⟨rfl, hb⟩
      go_wp2
      go_ret
      exact ⟨rfl, hb⟩
  have h30 : ns.length ≤ 30 := by omega
  have h60 : s.length ≤ 60 := by omega
  have hA60 : ah.length ≤ 60 := by omega
  have hB60 : bh.length ≤ 60 := by omega
  have hby1 : by_ ≠ 0 := by omega
  clear hbig
  have hI : ¬ (30 : Int) < (ns.length : Int) := by omega
  have hI1 : ¬ (60 : Int) < (s.length : Int) := by omega
  have hI2 : ¬ (60 : Int) < (ah.length : Int) := by omega
  have hI3 : ¬ (60 : Int) < (bh.length : Int) := by omega
  have hI4 : (by_ == 0) = false := beq_eq_false_iff_ne.2 hby1
  obtain ⟨R, hR, hmay, hparts, hsz, hPl, hP1⟩ := back_facts (s := s) (by omega) ns
  have hmk := make_any s (by omega) ns.length ns a0 c0 w (Nat.le_refl _) (by omega) HB0.out
  rw [hR] at hmk
  have HMK := Lib.hid hmk
  have HMAY := Lib.hid hmay
  have HPT := Lib.hid hparts
  have HSZ := Lib.hid hsz
  obtain ⟨P, hP⟩ : ∃ P, Rp.enc R = P := ⟨_, rfl⟩
  rw [hP] at hPl hP1
  have HP := Lib.hid hP
  clear hR hmk hmay hparts hsz hP
  go_enter Tryd.func5, Tryd.ntmps5
  go_wp2_with fail
  refine HMK.out.mono ?_
  rintro e w2 ⟨ar, cr, rfl, hrep, hbw2⟩
  unfold rv at hrep ⊢
  obtain ⟨w3, hw3⟩ : ∃ w3, w2.alloc (.cells #[.int .i64 R.k, .string ⟨R.s.toArray⟩, .int .i64 R.n, .slice ar R.l.length cr] 24) = w3 := ⟨_, rfl⟩
  have hx3 := World.alloc_heap_new w2 (.cells #[.int .i64 R.k, .string ⟨R.s.toArray⟩, .int .i64 R.n, .slice ar R.l.length cr] 24)
  have hbw3 : Below w2.heap.size w2 w3 := by rw [← hw3]; exact (Below.refl _ w2).alloc (Nat.le_refl _) _
  rw [hw3] at hx3
  have HM3 : Hid (RBox w w2.heap.size R w3) := Lib.hid ⟨ar, cr, hx3, (hrep.mono fun k h1 h2 => ⟨by omega, by omega⟩).later hbw3, hbw2.trans (hbw3.mono hbw2.size)⟩
  have HW3 := Lib.hid hw3
  clear hrep hbw2 hw3 hx3 hbw3 HMK
  go_upto_region 4 with (fail)
  rw [HW3.out]
  clear HW3
  have HSZ2 := Lib.hid (show (Rp.heads 0 R).length ≤ 1000000 by have := HSZ.out; omega)
  have HCA := Lib.hid (show AllQ CAQ (Rp.heads 0 R) from fun p hp => (HPT.out p hp).2)
  have HRP := Lib.hid (show ∀ (W : World) (v : Value), Rep (fun k => w.heap.size ≤ k ∧ k ≠ w2.heap.size) W R v → Rep (fun k => k < W.heap.size) W R v from fun W v h => h.mono fun k _ h => h)
  obtain ⟨a, c, h1, h2, h3⟩ := HM3.out
  obtain ⟨b0, b1, b2, b3⟩ := cells_four h1
  have hp := callsIn_wide.1 (put_any R a c w3 HSZ2.out HCA.out (HENV.out.below h3 HENV.out.size) (HRP.out _ _ h2))
  unfold rv Rp.putB at hp
  rw [if_pos HMAY.out, HP.out] at hp
  have HPU := Lib.hid hp
  clear hp h1 h2 h3
  go_wp2_with fail
  refine HPU.out.mono ?_
  rintro e w4 ⟨v4, rfl, hbuf4, hbw4⟩
  obtain ⟨ap, cp, rfl, hbt4⟩ := hbuf4.bt
  have HM4 := Lib.hid (HM3.out.later hbw4)
  have HF4 := Lib.hid hbuf4
  have HT4 := Lib.hid hbt4.tt
  have p0 := hbt4.1
  have p1 := hbt4.2.1
  have HAP := Lib.hid (show ∃ g, ap = some ⟨g, 0, none⟩ from by
    rcases hbuf4.2 with ⟨h, h0⟩ | ⟨g, cap, cur, h, -⟩
    · omega
    · injection h with h _ _; exact ⟨g, h⟩)
  clear hbuf4 hbt4 hbw4 b0 b1 b2 b3 HPU HM3
  have hP0 : ((P.length : Int) == 0) = false := beq_eq_false_iff_ne.2 (by omega)
  obtain ⟨a, c, h1, h2, h3⟩ := HM4.out
  obtain ⟨b0, b1, b2, b3⟩ := cells_four h1
  have hm := callsIn_wide.1 (may_any R a c w4 HSZ2.out HCA.out (HRP.out _ _ h2))
  unfold rv at hm
  rw [HMAY.out] at hm
  have HMM := Lib.hid hm
  clear hm h1 h2 h3
  go_wp2_with fail
  refine HMM.out.mono ?_
  rintro e w5 ⟨rfl, hbw5⟩
  have HM5 := Lib.hid (HM4.out.later hbw5)
  have HF5 := Lib.hid (owns_kept (S := fun _ => True) HF4.out (Keeps.of_below hbw5 fun _ h _ => h) fun _ _ => trivial)
  have HT5 := Lib.hid (HT4.out.later hbw5)
  clear hbw5 HM4 HF4 HT4 b0 b1 b2 b3 HMM
  have hw5 : Below w.heap.size w w5 := let ⟨_, _, _, _, h⟩ := HM5.out; h
  have HW5 := Lib.hid hw5
  obtain ⟨ge, hge⟩ := HAP.out
  subst hge
  have hz5 : w.heap.size ≤ w5.heap.size := hw5.size
  have he5 : Below w5.heap.size w5 (w5.alloc (.cells #[] 5)) := (Below.refl _ w5).alloc (Nat.le_refl _) _
  have HE5 := Lib.hid he5
  clear hw5 he5 HAP
  go_wp2_with (at_builtin; refine wpList_append_bt rfl (.tmp 64) (.tmp 65) rfl rfl (buf_empty w5 w5.heap.size (Nat.le_refl _)) rfl (HB2.out.later (HW5.out.trans (HE5.out.mono hz5))) HN2.out (by simp) (by omega) (by simp) ?_)
  intro v6 w6 hbuf6 hb6
  have HK6 := Lib.hid (HE5.out.trans hb6)
  have hbuf6' : Buf w5.heap.size ah v6 w6 := hbuf6
  have HF6 := Lib.hid hbuf6'
  have hl6 : ah.length ≤ 1000000 := by omega
  have hnone : (some (⟨ge, 0, none⟩ : Addr)) = none → cp = 0 := fun e => by cases e
  clear hbuf6'
  have hlP : P.length ≤ 1000000 := by omega
  clear hbuf6 hb6
  go_wp2_with (at_builtin; refine wpList_append_bt rfl (.tmp 66) (.tmp 67) rfl rfl HF6.out rfl (HT5.out.later HK6.out) hnone hl6 hlP HK6.out.size ?_)
  intro v7 w7 hbuf7 hb7
  have HK7 := Lib.hid (HK6.out.trans hb7)
  obtain ⟨B7, hB7⟩ : ∃ B7, ah ++ P = B7 := ⟨_, rfl⟩
  rw [hB7] at hbuf7
  have hl7 : B7.length ≤ 1000000 := by rw [← hB7, List.length_append]; omega
  have HF7 := Lib.hid hbuf7
  have HB7 := Lib.hid hB7
  clear hB7 hl6
  have hlB : bh.length ≤ 1000000 := by omega
  clear hbuf7 hb7 HF6 HK6
  go_wp2_with (at_builtin; refine wpList_append_bt rfl (.tmp 68) (.tmp 69) rfl rfl HF7.out rfl (HB3.out.later (HW5.out.trans (HK7.out.mono hz5))) HN3.out hl7 hlB HK7.out.size ?_)
  intro v8 w8 hbuf8 hb8
  have HK8 := Lib.hid (HK7.out.trans hb8)
  obtain ⟨B8, hB8⟩ : ∃ B8, B7 ++ bh = B8 := ⟨_, rfl⟩
  rw [hB8] at hbuf8
  obtain ⟨a8, c8, rfl, hbt8⟩ := hbuf8.bt
  have HM8 := Lib.hid (HM5.out.later HK8.out)
  have HT8 := Lib.hid (HT5.out.later HK8.out)
  have HW8 := Lib.hid (HW5.out.trans (HK8.out.mono hz5))
  have hN8 : B8.length = ah.length + P.length + bh.length := by rw [← hB8, ← HB7.out, List.length_append, List.length_append]
  have hgv := get_any B8 (ah.length : Int) a8 c8 w8 (by omega) (by omega) (by omega) hbt8 (HENV.out.below HW8.out HENV.out.size)
  have hgo : getO B8 (ah.length : Int) = .ok R bh := by
    unfold getO
    rw [if_neg (by omega), Int.toNat_natCast, ← hB8, ← HB7.out, List.append_assoc, List.drop_left, ← HP.out]
    exact Rp.get_put HMAY.out (fun p hp => (HPT.out p hp).1) bh
  rw [hgo] at hgv
  have hnx : (B8.length : Int) - (bh.length : Int) = (ah.length : Int) + (P.length : Int) := by omega
  have HGV := Lib.hid hgv
  have q6 := hbt8.1
  have q7 := hbt8.2.1
  have hN8' : B8.length ≤ 20000 := by omega
  clear hgv hgo hbuf8 hb8 hbt8 HF7 HK7 HM5 HT5 HF5 HE5 hN8 hB8 hl7
  go_wp2_with fail
  refine HGV.out.mono ?_
  rintro e w9 ⟨hb9, k9, s9, n9, a9, l9, c9, rfl, hrep9⟩
  rw [hnx]
  have HR9 := Lib.hid hrep9
  have HM9 := Lib.hid (HM8.out.later hb9)
  have HT9 := Lib.hid (HT8.out.later hb9)
  have HW9 := Lib.hid (HW8.out.trans (hb9.mono HW8.out.size))
  clear hrep9 hb9 HGV HM8 HT8 HK8 hnx
  go_upto_region 9 with (fail)
  obtain ⟨w10, hw10⟩ : ∃ w10, w9.alloc (.cells #[.int .i64 k9, .string s9, .int .i64 n9, .slice a9 l9 c9] 24) = w10 := ⟨_, rfl⟩
  have hx10 := World.alloc_heap_new w9 (.cells #[.int .i64 k9, .string s9, .int .i64 n9, .slice a9 l9 c9] 24)
  have hb10 : Below w9.heap.size w9 w10 := by rw [← hw10]; exact (Below.refl _ w9).alloc (Nat.le_refl _) _
  rw [hw10] at hx10 ⊢
  have HX10 := Lib.hid hx10
  have HR10 := Lib.hid (HR9.out.later hb10)
  have HM10 := Lib.hid (HM9.out.later hb10)
  have HT10 := Lib.hid (HT9.out.later hb10)
  have HW10 := Lib.hid (HW9.out.trans (hb10.mono HW9.out.size))
  clear hw10 hx10 hb10 HR9 HM9 HT9 HW9 HW8
  obtain ⟨m, hmm⟩ : ∃ m : Nat, cut % (P.length : Int) = (m : Int) := ⟨(cut % (P.length : Int)).toNat, by have := Int.emod_nonneg cut (b := (P.length : Int)) (by omega); omega⟩
  have hmP : m < P.length := by have := Int.emod_lt_of_pos cut (b := (P.length : Int)) (by omega); omega
  have hmI : (m : Int) < (P.length : Int) := by omega
  have tm : cut.tmod (P.length : Int) = (m : Int) := by rw [Int.tmod_eq_emod_of_nonneg u0]; exact hmm
  have wm : IntKind.i64.wrap (m : Int) = (m : Int) := IntWalk.i64_in _ (by omega)
  have wc : IntKind.i64.wrap cut = cut := IntWalk.i64_in _ (by omega)
  have hPn : ¬ (P.length : Int) = 0 := by omega
  have hcI : (m : Int) ≤ (cp : Int) := by omega
  go_wp2_with fail
  have hlm : (P.take m).length = m := by rw [List.length_take]; omega
  have hgv := get_any (P.take m) 0 (some ⟨ge, 0, none⟩) cp w10 (by omega) (by decide) (by decide) (HT10.out.take m) (HENV.out.below HW10.out HENV.out.size)
  have hgo : getO (P.take m) 0 = .err 6 := by
    unfold getO
    rw [if_neg (by omega)]
    exact Rp.get_pre HMAY.out (fun p hp => (HPT.out p hp).1) (q := P.drop m) (fun h => by have := congrArg List.length h; simp at this; omega) (by rw [HP.out]; exact List.take_append_drop m P)
  rw [hgo, hlm] at hgv
  refine hgv.mono ?_
  rintro e w11 ⟨hb11, -, rfl⟩
  have HR11 := Lib.hid (HR10.out.later hb11)
  have HM11 := Lib.hid (HM10.out.later hb11)
  have HT11 := Lib.hid (HT10.out.later hb11)
  have HX11 := Lib.hid ((hb11.block _ (Array.getElem?_eq_some_iff.1 HX10.out).1).trans HX10.out)
  have HW11 := Lib.hid (HW10.out.trans (hb11.mono HW10.out.size))
  clear hgv hgo hlm hb11 HR10 HM10 HT10 HX10 HW10 hmm tm wc hcI hmI hmP
  go_upto_region 10 with (fail)
  obtain ⟨w12, hw12⟩ : ∃ w12, w11.alloc (.cells #[.int .i64 0, .string ⟨#[]⟩, .int .i64 0, .slice none 0 0] 24) = w12 := ⟨_, rfl⟩
  have hb12 : Below w11.heap.size w11 w12 := by rw [← hw12]; exact (Below.refl _ w11).alloc (Nat.le_refl _) _
  rw [hw12]
  have HR12 := Lib.hid (HR11.out.later hb12)
  have HM12 := Lib.hid (HM11.out.later hb12)
  have HT12 := Lib.hid (HT11.out.later hb12)
  have HX12 := Lib.hid ((hb12.block _ (Array.getElem?_eq_some_iff.1 HX11.out).1).trans HX11.out)
  have HW12 := Lib.hid (HW11.out.trans (hb12.mono HW11.out.size))
  have he12 : Below w12.heap.size w12 (w12.alloc (.cells #[] 5)) := (Below.refl _ w12).alloc (Nat.le_refl _) _
  have HE12 := Lib.hid he12
  clear hw12 hb12 he12 HR11 HM11 HT11 HX11 HW11
  go_wp2_with (at_builtin; refine wpList_append_bt rfl (.tmp 91) (.tmp 92) rfl rfl (buf_empty w12 w12.heap.size (Nat.le_refl _)) rfl (HT12.out.later HE12.out) hnone (by simp) hlP (by simp) ?_)
  intro v13 w13 hbuf13 hb13
  have hbuf13' : Buf w12.heap.size P v13 w13 := hbuf13
  obtain ⟨gc, cc, rfl, hgB, hbt13, hcell⟩ := hbuf13'.open_ (by omega)
  obtain ⟨j, hjj⟩ : ∃ j : Nat, at_ % (P.length : Int) = (j : Int) := ⟨(at_ % (P.length : Int)).toNat, by have := Int.emod_nonneg at_ (b := (P.length : Int)) (by omega); omega⟩
  have hjP : j < P.length := by have := Int.emod_lt_of_pos at_ (b := (P.length : Int)) (by omega); omega
  have tj : at_.tmod (P.length : Int) = (j : Int) := by rw [Int.tmod_eq_emod_of_nonneg u2]; exact hjj
  have wj : IntKind.i64.wrap (j : Int) = (j : Int) := IntWalk.i64_in _ (by omega)
  have wa : IntKind.i64.wrap at_ = at_ := IntWalk.i64_in _ (by omega)
  have hjI : (j : Int) < (P.length : Int) := by omega
  obtain ⟨c0, f0⟩ := hcell j hjP
  obtain ⟨B8, hB8y⟩ : ∃ B8 : UInt8, (B8.toNat : Int) = by_ := ⟨UInt8.ofNat by_.toNat, by rw [UInt8.toNat_ofNat']; omega⟩
  have hB80 : B8 ≠ 0 := by rintro rfl; exact hby1 (by rw [← hB8y]; rfl)
  obtain ⟨Y8, hY8⟩ : ∃ Y8, P.getD j 0 ^^^ B8 = Y8 := ⟨_, rfl⟩
  have hx : bits .xor .u8 ((P.getD j 0).toNat : Int) by_ = (Y8.toNat : Int) := by rw [← hB8y, u8_xor, hY8]
  have hYne : Y8 ≠ P.getD j 0 := by rw [← hY8]; exact xor_ne hB80
  obtain ⟨C, hC⟩ : ∃ C, P.set j Y8 = C := ⟨_, rfl⟩
  have hCl : C.length = P.length := by rw [← hC, List.length_set]
  have HCN := Lib.hid (show C ≠ P by rw [← hC]; exact set_ne hjP hYne)
  have hbt14 := hbt13.turn hjP Y8
  rw [hC] at hbt14
  have hb13' : Below w12.heap.size w12 (w13.setCell ⟨gc, j, none⟩ (.int .u8 (Y8.toNat : Int))) := (HE12.out.trans hb13).setCell (p := ⟨gc, j, none⟩) hgB _
  obtain ⟨x8, hx8⟩ : ∃ x8 : Int, ((P.getD j 0).toNat : Int) = x8 := ⟨_, rfl⟩
  obtain ⟨y8, hy8⟩ : ∃ y8 : Int, (Y8.toNat : Int) = y8 := ⟨_, rfl⟩
  rw [hx8] at c0 hx
  rw [hy8] at hx hbt14 hb13'
  have HT14 := Lib.hid hbt14
  have HB14 := Lib.hid hb13'
  have HCL := Lib.hid hCl
  have HX8 := Lib.hid hx
  clear hbuf13 hbuf13' hbt13 hcell hbt14 hb13' hC hCl hB8y hB80 hY8 hYne hx8 hy8 hgB hb13 hjj HT12 HE12
  go_upto_region 12 with (fail)
  have hb14 := HB14.out
  have hbt14 := HT14.out
  obtain ⟨w14, hw14⟩ : ∃ w14, w13.setCell ⟨gc, j, none⟩ (.int .u8 y8) = w14 := ⟨_, rfl⟩
  rw [hw14] at hb14 hbt14 ⊢
  have HR14 := Lib.hid (HR12.out.later hb14)
  have HM14 := Lib.hid (HM12.out.later hb14)
  have HX14 := Lib.hid ((hb14.block _ (Array.getElem?_eq_some_iff.1 HX12.out).1).trans HX12.out)
  have HW14 := Lib.hid (HW12.out.trans (hb14.mono HW12.out.size))
  have hgv := get_any C 0 (some ⟨gc, 0, none⟩) cc w14 (by have := HCL.out; omega) (by decide) (by decide) hbt14 (HENV.out.below HW14.out HENV.out.size)
  rw [HCL.out] at hgv
  have htn := fun y t => turned (y := y) (t := t) HP.out HCL.out HCN.out
  generalize getO C 0 = o at hgv htn
  have HGV := Lib.hid hgv
  have HTN := Lib.hid htn
  clear hgv htn hw14 hb14 hbt14 HT14 HB14 HR12 HM12 HX12 HW12 c0 f0 tj wj wa hjI hjP hx
  go_wp2_with fail
  refine HGV.out.mono ?_
  cases o with
  | err c =>
    rintro e w15 ⟨hb15, hcne, rfl⟩
    have HR15 := Lib.hid (HR14.out.later hb15)
    have HM15 := Lib.hid (HM14.out.later hb15)
    have HX15 := Lib.hid ((hb15.block _ (Array.getElem?_eq_some_iff.1 HX14.out).1).trans HX14.out)
    have HW15 := Lib.hid (HW14.out.trans (hb15.mono HW14.out.size))
    clear hb15 HGV HR14 HM14 HX14 HW14 HTN
    go_upto_region 13 with (fail)
    obtain ⟨w16, hw16⟩ : ∃ w16, w15.alloc (.cells #[.int .i64 0, .string ⟨#[]⟩, .int .i64 0, .slice none 0 0] 24) = w16 := ⟨_, rfl⟩
    have hx16 := World.alloc_heap_new w15 (.cells #[.int .i64 0, .string ⟨#[]⟩, .int .i64 0, .slice none 0 0] 24)
    have hb16 : Below w15.heap.size w15 w16 := by rw [← hw16]; exact (Below.refl _ w15).alloc (Nat.le_refl _) _
    rw [hw16] at hx16 ⊢
    have HR16 := Lib.hid (HR15.out.later hb16)
    have HM16 := Lib.hid (HM15.out.later hb16)
    have HX16 := Lib.hid ((hb16.block _ (Array.getElem?_eq_some_iff.1 HX15.out).1).trans HX15.out)
    have HW16 := Lib.hid (HW15.out.trans (hb16.mono HW15.out.size))
    clear hw16 hx16 hb16 HR15 HM15 HX15 HW15
    have hcb : (c != 0) = true := by simp [hcne]
    obtain ⟨x0, x1, x2, x3⟩ := cells_four HX16.out
    obtain ⟨a, c, h1, h2, h3⟩ := HM16.out
    obtain ⟨b0, b1, b2, b3⟩ := cells_four h1
    obtain ⟨ar9, cr9, hv, -, -⟩ := HR16.out.parts
    have hr9 := HR16.out
    rw [hv] at hr9
    have hsame := refSame_any _ R R ar9 a cr9 c w16 (Nat.le_refl _) (hr9.mono fun _ _ _ => trivial) (h2.mono fun _ _ _ => trivial)
    rw [Rp.eqR_refl] at hsame
    unfold rv at hsame hv
    simp only [Value.agg.injEq, Array.mk.injEq, List.cons.injEq, and_true, Value.int.injEq, true_and, Value.string.injEq, Value.slice.injEq] at hv
    obtain ⟨rfl, rfl, rfl, rfl, rfl, rfl⟩ := hv
    have HSM := Lib.hid hsame
    clear hsame h1 h2 h3 hr9
    go_wp2_with fail
    refine (num_law _ _).mono ?_
    rintro e w17 ⟨rfl, rfl⟩
    go_wp2_with fail
    refine HSM.out.mono ?_
    rintro e w18 ⟨rfl, hb18⟩
    have HM18 := Lib.hid (HM16.out.later hb18)
    have HW18 := Lib.hid (HW16.out.trans (hb18.mono HW16.out.size))
    clear hb18 b0 b1 b2 b3 x0 x1 x2 x3 HSM
    go_wp2_with fail
    refine (num_law _ _).mono ?_
    rintro e w19 ⟨rfl, rfl⟩
    go_wp2_with fail
    refine (num_law _ _).mono ?_
    rintro e w20 ⟨rfl, rfl⟩
    have HWQ := HW18
    go_wp2_with fail
    refine (awake_any _ (HENV.out.below HWQ.out HENV.out.size)).mono ?_
    rintro e w30 ⟨rfl, hb30⟩
    have HB30 := Lib.hid (HWQ.out.trans (hb30.mono HWQ.out.size))
    clear hb30
    go_wp2_with fail
    go_ret
    exact ⟨rfl, HB30.out⟩
  | ok y t =>
    rintro e w15 ⟨hb15, ky, sy, my, ay, ly, cy, rfl, hrepy⟩
    have HR15 := Lib.hid (HR14.out.later hb15)
    have HM15 := Lib.hid (HM14.out.later hb15)
    have HX15 := Lib.hid ((hb15.block _ (Array.getElem?_eq_some_iff.1 HX14.out).1).trans HX14.out)
    have HW15 := Lib.hid (HW14.out.trans (hb15.mono HW14.out.size))
    have HQ15 := Lib.hid hrepy
    have htt := HTN.out y t rfl
    have hcb : ((0 : Int) != 0) = false := by decide
    clear hb15 HGV HR14 HM14 HX14 HW14 HTN hrepy
    go_upto_region 13 with (fail)
    obtain ⟨w16, hw16⟩ : ∃ w16, w15.alloc (.cells #[.int .i64 ky, .string sy, .int .i64 my, .slice ay ly cy] 24) = w16 := ⟨_, rfl⟩
    have hx16 := World.alloc_heap_new w15 (.cells #[.int .i64 ky, .string sy, .int .i64 my, .slice ay ly cy] 24)
    have hb16 : Below w15.heap.size w15 w16 := by rw [← hw16]; exact (Below.refl _ w15).alloc (Nat.le_refl _) _
    rw [hw16] at hx16 ⊢
    have HR16 := Lib.hid (HR15.out.later hb16)
    have HM16 := Lib.hid (HM15.out.later hb16)
    have HX16 := Lib.hid ((hb16.block _ (Array.getElem?_eq_some_iff.1 HX15.out).1).trans HX15.out)
    have HW16 := Lib.hid (HW15.out.trans (hb16.mono HW15.out.size))
    have HQ16 := Lib.hid (HQ15.out.later hb16)
    have HY16 := Lib.hid hx16
    clear hw16 hx16 hb16 HR15 HM15 HX15 HW15 HQ15
    rcases Classical.em (t = []) with ht | ht
    · have heq := htt.resolve_left (fun h => h ht)
      subst ht
      have HEQ := Lib.hid heq
      clear htt heq
      simp only [List.length_nil, Int.ofNat_zero, Int.sub_zero] at *
      obtain ⟨x0, x1, x2, x3⟩ := cells_four HX16.out
      obtain ⟨a, c, h1, h2, h3⟩ := HM16.out
      obtain ⟨b0, b1, b2, b3⟩ := cells_four h1
      obtain ⟨ar9, cr9, hv, -, -⟩ := HR16.out.parts
      have hr9 := HR16.out
      rw [hv] at hr9
      have hsame := refSame_any _ R R ar9 a cr9 c w16 (Nat.le_refl _) (hr9.mono fun _ _ _ => trivial) (h2.mono fun _ _ _ => trivial)
      rw [Rp.eqR_refl] at hsame
      unfold rv at hsame hv
      simp only [Value.agg.injEq, Array.mk.injEq, List.cons.injEq, and_true, Value.int.injEq, true_and, Value.string.injEq, Value.slice.injEq] at hv
      obtain ⟨rfl, rfl, rfl, rfl, rfl, rfl⟩ := hv
      have HSM := Lib.hid hsame
      clear hsame h1 h2 h3 hr9
      go_wp2_with fail
      refine (num_law _ _).mono ?_
      rintro e w17 ⟨rfl, rfl⟩
      go_wp2_with fail
      refine HSM.out.mono ?_
      rintro e w18 ⟨rfl, hb18⟩
      have HM18 := Lib.hid (HM16.out.later hb18)
      have HW18 := Lib.hid (HW16.out.trans (hb18.mono HW16.out.size))
      have HQ18 := Lib.hid (HQ16.out.later hb18)
      have HY18 := Lib.hid ((hb18.block _ (Array.getElem?_eq_some_iff.1 HY16.out).1).trans HY16.out)
      clear hb18 b0 b1 b2 b3 x0 x1 x2 x3 HSM
      go_wp2_with fail
      refine (num_law _ _).mono ?_
      rintro e w19 ⟨rfl, rfl⟩
      go_wp2_with fail
      refine (num_law _ _).mono ?_
      rintro e w20 ⟨rfl, rfl⟩
      obtain ⟨x0, x1, x2, x3⟩ := cells_four HY18.out
      obtain ⟨a, c, h1, h2, h3⟩ := HM18.out
      obtain ⟨b0, b1, b2, b3⟩ := cells_four h1
      obtain ⟨ar9, cr9, hv, -, -⟩ := HQ18.out.parts
      have hr9 := HQ18.out
      rw [hv] at hr9
      have hsame := refSame_any _ y R ar9 a cr9 c w18 (Nat.le_refl _) (hr9.mono fun _ _ _ => trivial) (h2.mono fun _ _ _ => trivial)
      rw [HEQ.out] at hsame
      unfold rv at hsame hv
      simp only [Value.agg.injEq, Array.mk.injEq, List.cons.injEq, and_true, Value.int.injEq, true_and, Value.string.injEq, Value.slice.injEq] at hv
      obtain ⟨rfl, rfl, rfl, rfl, rfl, rfl⟩ := hv
      have HSM2 := Lib.hid hsame
      clear hsame h1 h2 h3 hr9
      go_wp2_with fail
      refine HSM2.out.mono ?_
      rintro e w21 ⟨rfl, hb21⟩
      have HWQ := Lib.hid (HW18.out.trans (hb21.mono HW18.out.size))
      clear hb21 b0 b1 b2 b3 x0 x1 x2 x3 HSM2
      go_wp2_with fail
      refine (awake_any _ (HENV.out.below HWQ.out HENV.out.size)).mono ?_
      rintro e w30 ⟨rfl, hb30⟩
      have HB30 := Lib.hid (HWQ.out.trans (hb30.mono HWQ.out.size))
      clear hb30
      go_wp2_with fail
      go_ret
      exact ⟨rfl, HB30.out⟩
    · have htl : 0 < t.length := List.length_pos_iff.2 ht
      have hneq : (((P.length : Int) - (t.length : Int)) != (P.length : Int)) = true := by simp; omega
      clear htt
      obtain ⟨x0, x1, x2, x3⟩ := cells_four HX16.out
      obtain ⟨a, c, h1, h2, h3⟩ := HM16.out
      obtain ⟨b0, b1, b2, b3⟩ := cells_four h1
      obtain ⟨ar9, cr9, hv, -, -⟩ := HR16.out.parts
      have hr9 := HR16.out
      rw [hv] at hr9
      have hsame := refSame_any _ R R ar9 a cr9 c w16 (Nat.le_refl _) (hr9.mono fun _ _ _ => trivial) (h2.mono fun _ _ _ => trivial)
      rw [Rp.eqR_refl] at hsame
      unfold rv at hsame hv
      simp only [Value.agg.injEq, Array.mk.injEq, List.cons.injEq, and_true, Value.int.injEq, true_and, Value.string.injEq, Value.slice.injEq] at hv
      obtain ⟨rfl, rfl, rfl, rfl, rfl, rfl⟩ := hv
      have HSM := Lib.hid hsame
      clear hsame h1 h2 h3 hr9
      go_wp2_with fail
      refine (num_law _ _).mono ?_
      rintro e w17 ⟨rfl, rfl⟩
      go_wp2_with fail
      refine HSM.out.mono ?_
      rintro e w18 ⟨rfl, hb18⟩
      have HM18 := Lib.hid (HM16.out.later hb18)
      have HW18 := Lib.hid (HW16.out.trans (hb18.mono HW16.out.size))
      clear hb18 b0 b1 b2 b3 x0 x1 x2 x3 HSM
      go_wp2_with fail
      refine (num_law _ _).mono ?_
      rintro e w19 ⟨rfl, rfl⟩
      go_wp2_with fail
      refine (num_law _ _).mono ?_
      rintro e w20 ⟨rfl, rfl⟩
      have HWQ := HW18
      go_wp2_with fail
      refine (awake_any _ (HENV.out.below HWQ.out HENV.out.size)).mono ?_
      rintro e w30 ⟨rfl, hb30⟩
      have HB30 := Lib.hid (HWQ.out.trans (hb30.mono HWQ.out.size))
      clear hb30
      go_wp2_with fail
      go_ret
      exact ⟨rfl, HB30.out⟩
end Go.Proofs.YtcjbfgkmpoebgaaDoor
