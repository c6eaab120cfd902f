/- The walk of DumpBack: an item by numbers is told again by its text; cut, longer, or with a byte turned, it is none. -/
import Derived.Test.YtbkhnnjjpelfcaaGreatDoorDpLaw
import Derived.Test.YtbkhnnjjpelfcaaGreatDoorDpMade
import Derived.Test.YtbkhnnjjpelfcaaGreatDoorItSame
import Derived.Laws.BitsAllLaws
namespace Go.Proofs.YtbkhnnjjpelfcaaGreatDoor
open Go.RowKit Go.Shelf
set_option linter.unusedVariables false
set_option linter.unusedSimpArgs false

theorem get_cut {i : It.I} (hi : It.mayB i = true) {m : Nat} (hm : m < (Dp.putS i).length) : Dp.getS ((Dp.putS i).take m) = none := by
  have e : Dp.putS i = Dp.dumpS i := by unfold Dp.putS; rw [if_pos hi]
  rw [e] at hm ⊢
  refine Dp.get_none fun j hj h => ?_
  refine Dp.dump_cut hi hj (t := (Dp.dumpS i).drop m) (fun h0 => ?_) (by rw [h, List.take_append_drop])
  have := congrArg List.length h0
  rw [List.length_drop] at this
  simp at this
  omega
theorem get_more {i : It.I} (hi : It.mayB i = true) (c : UInt8) : Dp.getS (Dp.putS i ++ [c]) = none := by
  have e : Dp.putS i = Dp.dumpS i := by unfold Dp.putS; rw [if_pos hi]
  rw [e]
  refine Dp.get_none fun j hj h => ?_
  have := (Dp.dump_pre hi hj h.symm).2
  cases this
theorem dp_xor (a b : UInt8) : bits .xor .u8 (a.toNat : Int) (b.toNat : Int) = ((a ^^^ b).toNat : Int) := by
  have ha := UInt8.toNat_lt a
  have hb := UInt8.toNat_lt b
  have hx : a.toNat ^^^ b.toNat < 2 ^ 8 := Nat.xor_lt_two_pow ha hb
  have h1 : (BitVec.ofInt 8 (a.toNat : Int)).toNat = a.toNat := by
    rw [BitVec.ofInt_natCast, BitVec.toNat_ofNat]; exact Nat.mod_eq_of_lt (by omega)
  have h2 : (BitVec.ofInt 8 (b.toNat : Int)).toNat = b.toNat := by
    rw [BitVec.ofInt_natCast, BitVec.toNat_ofNat]; exact Nat.mod_eq_of_lt (by omega)
  show IntKind.u8.wrap ((BitVec.ofInt 8 (a.toNat : Int) ^^^ BitVec.ofInt 8 (b.toNat : Int)).toNat : Int) = _
  rw [BitVec.toNat_xor, h1, h2, IntKind.wrap_u8, UInt8.toNat_xor]
  omega
theorem get_turned {i : It.I} (hi : It.mayB i = true) {k : Nat} (hk : k < (Dp.putS i).length) {b : UInt8} (hb : b ≠ 0) : Dp.getS ((Dp.putS i).set k ((Dp.putS i).getD k 0 ^^^ b)) = none := by
  have e : Dp.putS i = Dp.dumpS i := by unfold Dp.putS; rw [if_pos hi]
  rw [e] at hk ⊢
  refine Dp.get_none fun j hj h => ?_
  have hx : (Dp.dumpS i).getD k 0 ^^^ b = UInt8.ofNat (((Dp.dumpS i).getD k 0).toNat ^^^ b.toNat) := by
    rw [← UInt8.toNat_xor, UInt8.ofNat_toNat]
  rw [hx] at h
  exact Dp.dump_turn hk (UInt8.toNat_lt b) (fun h0 => hb (UInt8.toNat_inj.1 (by rw [h0]; rfl))) h.symm

/-- a row that []byte(s) made, with a byte turned. -/
theorem bytes_turn (w : World) (P : List UInt8) (hl : P.length ≤ 1000000) {j : Nat} (hj : j < P.length) :
    (Lib.bytesWorld w 5 ⟨P.toArray⟩).cell? ⟨w.heap.size, j, none⟩ = some (.int .u8 ((P.getD j 0).toNat : Int)) ∧ (Lib.bytesWorld w 5 ⟨P.toArray⟩).frozen? ⟨w.heap.size, j, none⟩ = false ∧ P.length ≤ capS w P ∧ capS w P ≤ 9223372036854775807 ∧
      ∀ y : UInt8, Bt (fun _ => True) ((Lib.bytesWorld w 5 ⟨P.toArray⟩).setCell ⟨w.heap.size, j, none⟩ (.int .u8 (y.toNat : Int))) (some ⟨w.heap.size, 0, none⟩) (capS w P) (P.set j y) := by
  have hcap : P.length ≤ capS w P ∧ capS w P ≤ 9223372036854775807 := ⟨grownCap_ge _ _ _ _, by
    have := grownCap_le_maxLen w P.length 0 5 (by unfold maxLen; omega)
    unfold capS
    unfold maxLen at this
    omega⟩
  have hs : (⟨P.toArray⟩ : ByteArray).size = P.length := by simp [ByteArray.size]
  have hc : ∀ k, k < P.length → (Lib.bytesWorld w 5 ⟨P.toArray⟩).cell? ⟨w.heap.size, k, none⟩ = some (.int .u8 ((P.getD k 0).toNat : Int)) := fun k hk => by
    have := Lib.bytesWorld_cell w 5 ⟨P.toArray⟩ k (by rw [hs]; exact hk)
    simpa using this
  refine ⟨hc j hj, ?_, hcap.1, hcap.2, fun y => ⟨by rw [List.length_set]; exact hcap.1, hcap.2, .inr ⟨_, 0, rfl, trivial, ?_, fun k hk => ?_⟩⟩⟩
  · have hsz : P.length ≤ (Lib.bytesCells w 5 ⟨P.toArray⟩).size := by
      have := hc (P.length - 1) (by omega)
      rw [World.cell?] at this
      simp only [Lib.bytesWorld_at_new] at this
      have h2 := (Array.getElem?_eq_some_iff.1 this).1
      omega
    simp [World.frozen?, Lib.bytesWorld_at_new]
    omega
  · simp [Lib.bytesWorld_size]
  · rw [List.length_set] at hk
    rw [Nat.zero_add]
    by_cases hkj : k = j
    · subst hkj
      have e : (P.set k y).getD k 0 = y := by simp [List.getD, hk]
      rw [e]
      exact World.cell?_setCell_same _ _ _ (hc k hk)
    · have e : (P.set j y).getD k 0 = P.getD k 0 := by
        simp only [List.getD, List.getElem?_set]
        rw [if_neg (fun h => hkj h.symm)]
      rw [e, World.cell?_setCell_other _ _ _ _ (by first | (simp; done) | (simp; omega)), hc k hk]

set_option maxRecDepth 100000 in
set_option maxHeartbeats 2000000 in
theorem dumpBack_go (p : Option Addr) (cap : Nat) (ns : List UInt8) (x at_ by_ bh : Int) (w : World) (hx0 : 0 ≤ x) (hx1 : x ≤ 255) (ha0 : 0 ≤ at_) (ha1 : at_ ≤ 65535) (hy0 : 0 ≤ by_) (hy1 : by_ ≤ 255) (hb0 : 0 ≤ bh) (hb1 : bh ≤ 255) (hB : Bytes w p ns) (hl : ns.length ≤ 9223372036854775807) (henv : Env w) :
    Calls Tryz.prog 4 #[.slice p ns.length cap, .int .u8 x, .int .u16 at_, .int .u8 by_, .int .u8 bh] w fun e W' => e = .returned (.bool true) ∧ Below w.heap.size w W' := by
  by_cases hz : by_ = 0
  · subst hz
    have HAw := Lib.hid (awake_any w henv)
    clear hB henv
    go_enter Tryz.func4, Tryz.ntmps4
    go_wp2_with fail
    refine HAw.out.mono ?_
    rintro e w1 ⟨rfl, hb⟩
    have HB1 := Lib.hid hb
    clear hb
    go_wp2
    go_ret
    exact ⟨rfl, HB1.out⟩
  have hma := make_any p cap ns x w hx0 hx1 hB hl
  have hva := make_may ns x hx0 hx1
  generalize Mk.mk ns x = I at *
  have HMA := Lib.hid hma
  have HV := Lib.hid hva
  have HE := Lib.hid henv
  obtain ⟨k, s, f, l, xx⟩ := I
  have ez : (by_ == 0) = false := by rw [beq_eq_false_iff_ne]; exact hz
  have hlens := may_lens hva
  simp only at hlens
  obtain ⟨P, hP⟩ : ∃ P : List UInt8, Dp.putS ⟨k, s, f, l, xx⟩ = P := ⟨_, rfl⟩
  have hne := Dp.put_ne hva
  have hPl : P.length ≤ 30002 := by rw [← hP]; exact put_len
  have HG1 := Lib.hid (get_putS hva)
  have HG2 := Lib.hid (fun m (hm : m < (Dp.putS ⟨k, s, f, l, xx⟩).length) => get_cut hva hm)
  have HG3 := Lib.hid (fun c => get_more hva c)
  have HG4 := Lib.hid (fun m (hm : m < (Dp.putS ⟨k, s, f, l, xx⟩).length) b (hb : b ≠ 0) => get_turned hva hm hb)
  rw [hP] at hne HG1 HG2 HG3 HG4
  have hP0 : 0 < P.length := List.length_pos_iff.2 hne
  have hne2 : List.isEmpty P = false := by cases P with
    | nil => exact absurd rfl hne
    | cons => rfl
  have HPP := Lib.hid hP
  clear hma hva henv hB hP
  go_enter Tryz.func4, Tryz.ntmps4
  go_wp2_with fail
  refine HMA.out.mono ?_
  rintro e w1 ⟨aF, aC, aL, aD, rfl, hF, hL, hb⟩
  simp only at hF hL ⊢
  have hxi := ItBox.new w1 k s aF f.length aC aL l.length aD xx
  have hal := (Below.refl w1.heap.size w1).alloc (Nat.le_refl _) (itc k s aF f.length aC aL l.length aD xx)
  have hb2 := hb.trans (hal.mono hb.size)
  have hpu := dput_any k xx s aF aC f aL aD l _ (hF.later hal) (hL.later hal) (by omega) (by omega) (HE.out.later hb2)
  rw [HPP.out] at hpu
  have HF := Lib.hid (And.intro (hF.later hal) (hL.later hal))
  have HXI := Lib.hid hxi
  have HB2 := Lib.hid hb2
  unfold itv at hpu ⊢
  unfold itc at hpu HF HXI HB2
  have HPu := Lib.hid hpu
  clear hF hL hb hal hxi hb2 hpu HMA
  go_wp2_with fail
  refine HPu.out.mono ?_
  rintro e w3 ⟨rfl, hb3⟩
  have HXI3 := Lib.hid (HXI.out.later hb3)
  have HF3 := Lib.hid (And.intro (HF.out.1.later hb3) (HF.out.2.later hb3))
  have HB3 := Lib.hid (HB2.out.trans (hb3.mono HB2.out.size))
  have hg := dget_any P w3 (by omega) (HE.out.later HB3.out)
  rw [HG1.out] at hg
  have HGe := Lib.hid hg
  clear hb3 hg HXI HF HB2 HPu
  go_wp2_with fail
  refine HGe.out.mono ?_
  rintro e w4 ⟨hb4, bF, bC, bL, bD, rfl, hF4, hL4, -⟩
  simp only at hF4 hL4 ⊢
  have hal := (Below.refl w4.heap.size w4).alloc (Nat.le_refl _) (itc k s bF f.length bC bL l.length bD xx)
  have hxj := ItBox.new w4 k s bF f.length bC bL l.length bD xx
  have hxi5 := (HXI3.out.later hb4).later hal
  have hb5 := (HB3.out.trans (hb4.mono HB3.out.size))
  have hb5' := hb5.trans (hal.mono hb5.size)
  have hsm := refSame_any k k xx xx s s bF aF bC aC f f bL aL bD aD l l _ (hF4.later hal) ((HF3.out.1.later hb4).later hal) (hL4.later hal) ((HF3.out.2.later hb4).later hal)
  rw [show It.sameB ⟨k, s, f, l, xx⟩ ⟨k, s, f, l, xx⟩ = true from It.same_self _] at hsm
  unfold itv at hsm ⊢
  unfold itc at hsm hxj hxi5 hb5'
  obtain ⟨c0, c1, c2, c3, c4⟩ := hxj.at
  obtain ⟨d0, d1, d2, d3, d4⟩ := hxi5.at
  have HSM := Lib.hid hsm
  have HB5 := Lib.hid hb5'
  clear hal hxj hxi5 hb5 hb5' hsm hF4 hL4 hb4 HF3 HXI3 HGe HB3
  go_wp2_with fail
  refine HSM.out.mono ?_
  rintro e w6 ⟨rfl, hb⟩
  have HB6 := Lib.hid (HB5.out.trans (hb.mono HB5.out.size))
  clear hb HSM HB5 c0 c1 c2 c3 c4 d0 d1 d2 d3 d4
  have hPI : (P.length : Int) ≤ 30002 := by omega
  have hP0I : (0 : Int) < (P.length : Int) := by omega
  obtain ⟨n, hn⟩ : ∃ n, P.length = n := ⟨_, rfl⟩
  rw [hn] at hPI hP0I hPl hP0
  have hsz : (⟨P.toArray⟩ : ByteArray).size = n := by rw [← hn]; simp [ByteArray.size]
  have hw1 : IntKind.i64.wrap ((n : Int) - 1) = (n : Int) - 1 := IntWalk.i64_in _ (by omega)
  have hcut : (⟨P.toArray⟩ : ByteArray).extract 0 (n - 1) = ⟨(P.take (n - 1)).toArray⟩ := by
    apply ByteArray.ext
    simp
  have hg := dget_any (P.take (n - 1)) w6 (by rw [List.length_take]; omega) (HE.out.later HB6.out)
  rw [HG2.out (n - 1) (by omega), ← hcut] at hg
  have HGc := Lib.hid hg
  clear hg hcut
  go_wp2_with fail
  refine HGc.out.mono ?_
  rintro e w7 ⟨hb7, rfl⟩
  have hB7 := HB6.out.trans (hb7.mono HB6.out.size)
  have hB8 := (hB7.alloc hB7.size (.cells #[.int .i64 0, .string ⟨#[]⟩, .slice none 0 0, .slice none 0 0, .int .i64 0] 25)).alloc (by simp; have := hB7.size; omega) (.cells #[.int .u8 bh] 5)
  have hcv := conv_at ((w7.alloc (.cells #[.int .i64 0, .string ⟨#[]⟩, .slice none 0 0, .slice none 0 0, .int .i64 0] 25)).alloc (.cells #[.int .u8 bh] 5)) (w7.heap.size + 1) bh (by
    have := cell_of_row _ _ 0 _ _ _ (World.alloc_heap_new (w7.alloc (.cells #[.int .i64 0, .string ⟨#[]⟩, .slice none 0 0, .slice none 0 0, .int .i64 0] 25)) (.cells #[.int .u8 bh] 5))
    rw [World.size_alloc] at this
    exact this)
  have happ : (⟨P.toArray⟩ : ByteArray) ++ ⟨#[UInt8.ofNat bh.toNat]⟩ = ⟨(P ++ [UInt8.ofNat bh.toNat]).toArray⟩ := by
    apply ByteArray.ext
    simp [ByteArray.data_append]
  have hg := dget_any (P ++ [UInt8.ofNat bh.toNat]) _ (by rw [List.length_append, hn]; simp; omega) (HE.out.later hB8)
  rw [HG3.out _, ← happ] at hg
  have HGm := Lib.hid hg
  have HB8 := Lib.hid hB8
  clear hg happ hb7 hB7 hB8 HB6 HGc
  unfold itv
  go_wp2_with fail
  refine HGm.out.mono ?_
  rintro e w9 ⟨hb9, rfl⟩
  have HB9 := Lib.hid (HB8.out.trans (hb9.mono HB8.out.size))
  clear hb9 HB8 HGm hcv
  have hB10 := HB9.out.alloc HB9.out.size (.cells #[.int .i64 0, .string ⟨#[]⟩, .slice none 0 0, .slice none 0 0, .int .i64 0] 25)
  obtain ⟨w10, hw10⟩ : ∃ w10, w9.alloc (.cells #[.int .i64 0, .string ⟨#[]⟩, .slice none 0 0, .slice none 0 0, .int .i64 0] 25) = w10 := ⟨_, rfl⟩
  rw [hw10] at hB10
  have hcv := sb_conv w10 P
  obtain ⟨j, hjj⟩ : ∃ j : Nat, at_ % (n : Int) = (j : Int) := ⟨(at_ % (n : Int)).toNat, by have := Int.emod_nonneg at_ (b := (n : Int)) (by omega); omega⟩
  have hjP : j < n := by have := Int.emod_lt_of_pos at_ (b := (n : Int)) (by omega); omega
  have tj : at_.tmod (n : Int) = (j : Int) := by rw [Int.tmod_eq_emod_of_nonneg ha0]; exact hjj
  have wa : IntKind.i64.wrap at_ = at_ := IntWalk.i64_in _ (by omega)
  have hjI : (j : Int) < (n : Int) := by omega
  have hj0 : (0 : Int) ≤ (j : Int) := by omega
  obtain ⟨c0, f0, hc1, hc2, hbt⟩ := bytes_turn w10 P (by omega) (j := j) (by omega)
  obtain ⟨B8, hB8y⟩ : ∃ B8 : UInt8, (B8.toNat : Int) = by_ := ⟨UInt8.ofNat by_.toNat, by rw [UInt8.toNat_ofNat']; omega⟩
  have hB80 : B8 ≠ 0 := by rintro rfl; exact hz (by rw [← hB8y]; rfl)
  have hbt1 := hbt (P.getD j 0 ^^^ B8)
  have hx := dp_xor (P.getD j 0) B8
  rw [hB8y] at hx
  have hgt := HG4.out j (by omega) B8 hB80
  obtain ⟨T, hT⟩ : ∃ T, P.set j (P.getD j 0 ^^^ B8) = T := ⟨_, rfl⟩
  have hTl : T.length = n := by rw [← hT, List.length_set, hn]
  rw [hT] at hgt hbt1
  obtain ⟨x8, hx8⟩ : ∃ x8 : Int, ((P.getD j 0).toNat : Int) = x8 := ⟨_, rfl⟩
  obtain ⟨y8, hy8⟩ : ∃ y8 : Int, ((P.getD j 0 ^^^ B8).toNat : Int) = y8 := ⟨_, rfl⟩
  rw [hx8] at c0 hx
  rw [hy8] at hx hbt1
  have hcv2 := hbt1.conv
  rw [hTl] at hcv2
  have hB11 : Below w.heap.size w ((Lib.bytesWorld w10 5 ⟨P.toArray⟩).setCell ⟨w10.heap.size, j, none⟩ (.int .u8 y8)) := (hB10.trans ((Lib.bytesWorld_below w10 5 ⟨P.toArray⟩).mono hB10.size)).setCell (p := ⟨w10.heap.size, j, none⟩) hB10.size _
  obtain ⟨cc, hcc⟩ : ∃ cc, capS w10 P = cc := ⟨_, rfl⟩
  rw [hn] at hcv hc1
  rw [hcc] at hcv hc1 hc2 hcv2
  have hg := dget_any T _ (by omega) (HE.out.later hB11)
  rw [hgt] at hg
  have HGt := Lib.hid hg
  have HB11 := Lib.hid hB11
  have HW10 := Lib.hid hw10
  clear hg hgt hbt hbt1 hB8y hB80 hT hx8 hy8 hTl hB10 hB11 hw10 hjj hcc HB9 HG1 HG2 HG3 HG4
  unfold itv
  go_upto_region 10 with (fail)
  rw [show w9.alloc (.cells #[.int .i64 0, .string ⟨#[]⟩, .slice none 0 0, .slice none 0 0, .int .i64 0] 25) = w10 from HW10.out]
  clear HW10
  go_wp2_with fail
  refine HGt.out.mono ?_
  rintro e w12 ⟨hb12, rfl⟩
  have hB12 := HB11.out.trans (hb12.mono HB11.out.size)
  have hB13 := hB12.alloc hB12.size (.cells #[.int .i64 0, .string ⟨#[]⟩, .slice none 0 0, .slice none 0 0, .int .i64 0] 25)
  have HAw := Lib.hid (awake_any _ (HE.out.later hB13))
  have HB13 := Lib.hid hB13
  clear hb12 hB12 hB13 HB11 HGt hcv hcv2 c0 f0 hx
  unfold itv
  go_wp2_with fail
  refine HAw.out.mono ?_
  rintro e w14 ⟨rfl, hb⟩
  have HB14 := Lib.hid (HB13.out.trans (hb.mono HB13.out.size))
  clear hb HB13 HAw
  go_wp2
  go_ret
  exact ⟨rfl, HB14.out⟩
end Go.Proofs.YtbkhnnjjpelfcaaGreatDoor
