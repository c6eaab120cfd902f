/- The walk of the statement CmdPairs. -/
import Derived.Test.YtibipalncknddaaCmAwake
namespace Go.Proofs.Ytibipalncknddaa
open Go.RowKit Go.Shelf

theorem str_two (a : UInt8) (t : List UInt8) : (⟨#[a]⟩ : ByteArray) ++ ⟨t.toArray⟩ = ⟨(a :: t).toArray⟩ := by
  apply ByteArray.ext
  simp

theorem digits_c (i : Nat) (W : World) (h : i < 100) : Calls Try.prog 18 #[.int .i64 (i : Int)] W fun e W' => e = .returned (.string ⟨(Cm.dg i).toArray⟩) ∧ Below W.heap.size W W' := by
  have := digits_any (i : Int) W (by omega) (by omega)
  rwa [Cm.dec_dg h] at this

theorem Cm.pwTo_first {j k : Nat} : Cm.pwTo j k ≠ [] := by
  cases k with
  | zero => unfold Cm.pwTo Cm.pw0; simp
  | succ k => unfold Cm.pwTo; split <;> simp

theorem Cm.nm7_len : Cm.nm7.length = 7 := by decide
theorem nm7_cell (w : World) (j : Nat) (h : j < 7) : (w.alloc (.cells #[.string ⟨#[77, 83, 69, 84]⟩, .string ⟨#[77, 83, 69, 84, 78, 88]⟩, .string ⟨#[68, 69, 76]⟩, .string ⟨#[77, 71, 69, 84]⟩, .string ⟨#[69, 88, 73, 83, 84, 83]⟩, .string ⟨#[72, 83, 69, 84]⟩, .string ⟨#[83, 73, 78, 84, 69, 82]⟩] 9)).cell? ⟨w.heap.size, j, none⟩ = some (.string ⟨(Cm.nm7.getD j []).toArray⟩) := by
  rw [cell_of_row _ _ j _ 9 (0, 0) (World.alloc_heap_new w _)]
  match j, h with
  | 0, _ => rfl
  | 1, _ => rfl
  | 2, _ => rfl
  | 3, _ => rfl
  | 4, _ => rfl
  | 5, _ => rfl
  | 6, _ => rfl

theorem Cm.hset7 {j : Nat} (h : j < 7) : (Cm.nm7.getD j [] == [72, 83, 69, 84]) = decide (j = 5) := by
  match j, h with
  | 0, _ => rfl
  | 1, _ => rfl
  | 2, _ => rfl
  | 3, _ => rfl
  | 4, _ => rfl
  | 5, _ => rfl
  | 6, _ => rfl

set_option maxRecDepth 100000 in
set_option maxHeartbeats 4000000 in
theorem cmdPairs_ay (n which : Int) (w : World) (hn : 0 ≤ n ∧ n ≤ 255) (hw : 0 ≤ which ∧ which ≤ 255) (k j : Nat) (hk : n % 20 = (k : Int)) (hk2 : k < 20) (hj : which % 7 = (j : Int)) (hj2 : j < 7) (hjc : j < 2) :
    Calls Try.prog 6 #[.int .u8 n, .int .u8 which, .bool true] w fun e w' => e = .returned (.bool true) ∧ Below w.heap.size w w' := by
  obtain ⟨i0, hi, hz0, hz1, hz2⟩ := info_parts info9
  obtain ⟨n1, n2⟩ := hn
  obtain ⟨w1, w2⟩ := hw
  have hjn : (which % 7).toNat = j := by omega
  have hc := nm7_cell w j hj2
  have hq := Cm.hset7 hj2
  have hq2 : (Cm.nm7.getD j [] == [72, 83, 69, 84]) = false := by rw [hq]; simp; omega
  have hb1 : which % 7 < 2 := by omega
  have hpr : Cm.pr7 j = true := by unfold Cm.pr7; simp; omega
  have hst : ∀ m, Cm.pwTo j (m + 1) = Cm.pwTo j m ++ [Cm.kd m, [118]] := by intro m; rw [Cm.pwTo, hpr]; rfl
  have h00 : Cm.pwTo j 0 = Cm.nm7.getD j [] :: [] := by unfold Cm.pwTo Cm.pw0; rw [if_neg (by omega)]
  have hfin := Cm.pairs_odd hj2 hk2 hpr
  have HFin := Lib.hid hfin
  have HST := Lib.hid hst
  have H00 := Lib.hid h00
  have HKk := Lib.hid hk
  have HL := Lib.hid (Cm.pwTo_len j)
  have HSh := Lib.hid (Cm.pwTo_short j (k + 1))
  have hs0 : (which % 7) < 7 := by omega
  have hs1 : 0 ≤ which % 7 := by omega
  have hns := Cm.nm7_short j
  clear hq hk hfin hst h00 hpr hj hjc
  generalize Cm.nm7.getD j [] = nm at *
  go_enter Try.func6, Try.ntmps6
  go_upto_region 5 with (fail)
  obtain ⟨wb, hwb⟩ : ∃ wb, w.alloc (.cells #[.string ⟨#[77, 83, 69, 84]⟩, .string ⟨#[77, 83, 69, 84, 78, 88]⟩, .string ⟨#[68, 69, 76]⟩, .string ⟨#[77, 71, 69, 84]⟩, .string ⟨#[69, 88, 73, 83, 84, 83]⟩, .string ⟨#[72, 83, 69, 84]⟩, .string ⟨#[83, 73, 78, 84, 69, 82]⟩] 9) = wb := ⟨_, rfl⟩
  have hbb : Below w.heap.size w wb := by rw [← hwb]; exact (Below.refl _ w).alloc (Nat.le_refl _) _
  have hsz : wb.heap.size = w.heap.size + 1 := by rw [← hwb]; simp
  have hr0 := RowW.one hbb nm
  rw [hsz] at hr0
  rw [hwb, HKk.out]
  clear hwb hsz hc
  obtain ⟨wd, hwd⟩ : ∃ wd, wb.alloc (.cells #[.string ⟨nm.toArray⟩] 9) = wd := ⟨_, rfl⟩
  rw [hwd] at hr0 ⊢
  have hR : RowW w (.slice (some ⟨w.heap.size + 1, 0, none⟩) 1 1) (Cm.pwTo j 0) wd := by rw [H00.out]; exact hr0
  have HR := Lib.hid hR
  clear hwd hbb hr0 hR
  go_wp2
  go_loopw [10, 11] (fun v i wr => ∃ (m : Nat) (sv : Value), m ≤ k + 1 ∧ i = .int .i64 m ∧ sv = v ∧ Hid (RowW w sv (Cm.pwTo j m) wr)) (fun _ i _ => k + 1 - (intOf i).toNat)
  case atStart => exact ⟨0, _, by omega, rfl, rfl, HR⟩
  case round =>
    obtain ⟨m, sv, hm, rfl, rfl, HRm⟩ := hrel
    have hlm := HL.out m
    have hszr := HRm.out.2.size
    by_cases hlt : m < k + 1
    · have hltI : (m : Int) < 1 + (k : Int) := by omega
      have hdig := fun W => digits_c m W (by omega)
      have hcat := str_two 107 (Cm.dg m)
      have hkl := @Cm.kd_len m
      have hkm : Cm.kd m = 107 :: Cm.dg m := rfl
      rw [← hkm] at hcat
      have hdl : (Cm.dg m).length ≤ 3 := by rw [hkm] at hkl; simp at hkl; omega
      have hst1 := HST.out m
      have HS1 := Lib.hid hst1
      have HD := Lib.hid hdig
      clear hst1 hdig hkm
      generalize Cm.kd m = km at *
      generalize Cm.dg m = dm at *
      go_wp2_with (first | (go_at_call 18; refine (HD.out _).mono ?_; rintro e w5 ⟨rfl, hb5⟩; have hr5 := HRm.out.later hb5; have hsz5 := hr5.2.size; clear hb5) | (at_builtin; refine wpList_append_own _ rfl (.tmp 45) (.tmp 49) 22 rfl w.heap.size 9 i0 (.string ⟨#[]⟩) 1 16 Try.underlying22 hi hz0 hz1 hz2 rfl (by decide) _ _ _ rfl (hr5.1.alloc _) ⟨w5.heap.size, 0, none⟩ 1 1 [.string ⟨km.toArray⟩] rfl rfl ?b1 ?b2 ?b3 ?b4 ?b5 ?_))
      case b1 => exact one_news _ _ rfl _ _
      case b2 => intro u hu; simp at hu; subst hu; rfl
      case b3 => unfold maxLen; omega
      case b4 => omega
      case b5 => simp; omega
      intro v6 w6 hown6 hgrow6 _
      have hr6 := hr5.append hown6 hgrow6
      have hl6 : (Cm.pwTo j m ++ [km]).length = (Cm.pwTo j m).length + 1 := by simp
      clear hown6 hgrow6 hr5 hcat
      have hsz6 := hr6.2.size
      go_wp2_with (at_builtin; refine wpList_append_own _ rfl (.tmp 52) (.tmp 53) 22 rfl w.heap.size 9 i0 (.string ⟨#[]⟩) 1 16 Try.underlying22 hi hz0 hz1 hz2 rfl (by decide) _ _ _ rfl (hr6.1.alloc _) ⟨w6.heap.size, 0, none⟩ 1 1 [.string ⟨#[118]⟩] rfl rfl ?d1 ?d2 ?d3 ?d4 ?d5 ?_)
      case d1 => exact one_news _ _ rfl _ _
      case d2 => intro u hu; simp at hu; subst hu; rfl
      case d3 => unfold maxLen; omega
      case d4 => omega
      case d5 => simp; omega
      intro v7 w7 hown7 hgrow7 _
      have hr7 : RowW w v7 (Cm.pwTo j (m + 1)) w7 := by rw [← hl6] at hown7; rw [HS1.out]; have := hr6.append hown7 hgrow7; simpa using this
      have HR7 := Lib.hid hr7
      clear hown7 hgrow7 hr6 hr7 hl6
      go_wp2
      go_roundw
      case rel => exact ⟨m + 1, _, by omega, by go_num, rfl, HR7⟩
      case measure => simp [intOf]; omega
    · obtain rfl : m = k + 1 := by omega
      have hge : 1 + (k : Int) ≤ ((k + 1 : Nat) : Int) := by omega
      have hgd : decide ((k : Int) + 1 < 1 + (k : Int)) = false := by rw [decide_eq_false_iff_not]; omega
      have hgn : ((k : Int) + 1 != 1 + (k : Int)) = false := by rw [bne_eq_false_iff_eq]; omega
      have hgb : ((k : Int) + 1 == 1 + (k : Int)) = true := by rw [beq_iff_eq]; omega
      have hr8 := HRm.out
      have hlw := HL.out (k + 1)
      have HShw := Lib.hid (show ∀ s ∈ Cm.pwTo j (k + 1) ++ [[120]], s.length ≤ 9223372036854775807 from fun s hs => by
        rcases List.mem_append.1 hs with h | h
        · have := HSh.out s h; omega
        · rw [List.mem_singleton.1 h]; simp)
      clear HRm
      generalize Cm.pwTo j (k + 1) = ws at *
      go_wp2_with (at_builtin; refine wpList_append_own _ rfl (.tmp 60) (.tmp 61) 22 rfl w.heap.size 9 i0 (.string ⟨#[]⟩) 1 16 Try.underlying22 hi hz0 hz1 hz2 rfl (by decide) _ _ _ rfl (hr8.1.alloc _) ⟨wr.heap.size, 0, none⟩ 1 1 [.string ⟨#[120]⟩] rfl rfl ?g1 ?g2 ?g3 ?g4 ?g5 ?_)
      case g1 => exact one_news _ _ rfl _ _
      case g2 => intro u hu; simp at hu; subst hu; rfl
      case g3 => unfold maxLen; omega
      case g4 => omega
      case g5 => simp; omega
      intro v9 w9 hown9 hgrow9 _
      have hr9 : RowW w v9 (ws ++ [[120]]) w9 := hr8.append hown9 hgrow9
      obtain ⟨a9, c9, rfl, hwd9⟩ := hr9.words HShw.out
      have hck := check_c a9 c9 _ w9 hwd9
      unfold chkV at hck
      rw [HFin.out] at hck
      have HCk := Lib.hid hck
      have HR9 := Lib.hid hr9
      clear hown9 hgrow9 hr8 hr9 hwd9 hck
      generalize (ws ++ [[120]] : List (List UInt8)).length = lw at *
      go_wp2_with (go_at_call 9; refine HCk.out.mono ?_; rintro e w10 ⟨rfl, hb10⟩; have HB10 := Lib.hid hb10; clear hb10; simp only [spV, zeroSp])
      go_wp2_with (go_at_call 8; refine (awake_any _).mono ?_; rintro e w11 ⟨rfl, hb11⟩; have HB11 := Lib.hid hb11; clear hb11)
      go_ret
      exact ⟨rfl, (HR9.out.2.trans (HB10.out.mono HR9.out.2.size)).trans ((((Below.refl _ w10).alloc (Nat.le_refl _) _).trans (HB11.out.mono (by simp))).mono (Nat.le_trans HR9.out.2.size HB10.out.size))⟩

set_option maxRecDepth 100000 in
set_option maxHeartbeats 4000000 in
theorem cmdPairs_an (n which : Int) (w : World) (hn : 0 ≤ n ∧ n ≤ 255) (hw : 0 ≤ which ∧ which ≤ 255) (k j : Nat) (hk : n % 20 = (k : Int)) (hk2 : k < 20) (hj : which % 7 = (j : Int)) (hj2 : j < 7) (hjc : j < 2) :
    Calls Try.prog 6 #[.int .u8 n, .int .u8 which, .bool false] w fun e w' => e = .returned (.bool true) ∧ Below w.heap.size w w' := by
  obtain ⟨i0, hi, hz0, hz1, hz2⟩ := info_parts info9
  obtain ⟨n1, n2⟩ := hn
  obtain ⟨w1, w2⟩ := hw
  have hjn : (which % 7).toNat = j := by omega
  have hc := nm7_cell w j hj2
  have hq := Cm.hset7 hj2
  have hq2 : (Cm.nm7.getD j [] == [72, 83, 69, 84]) = false := by rw [hq]; simp; omega
  have hb1 : which % 7 < 2 := by omega
  have hpr : Cm.pr7 j = true := by unfold Cm.pr7; simp; omega
  have hst : ∀ m, Cm.pwTo j (m + 1) = Cm.pwTo j m ++ [Cm.kd m, [118]] := by intro m; rw [Cm.pwTo, hpr]; rfl
  have h00 : Cm.pwTo j 0 = Cm.nm7.getD j [] :: [] := by unfold Cm.pwTo Cm.pw0; rw [if_neg (by omega)]
  have hfin := Cm.pairs_keys hj2 hk2 (by omega)
  have HFin := Lib.hid hfin
  have HST := Lib.hid hst
  have H00 := Lib.hid h00
  have HKk := Lib.hid hk
  have HL := Lib.hid (Cm.pwTo_len j)
  have HSh := Lib.hid (Cm.pwTo_short j (k + 1))
  have hs0 : (which % 7) < 7 := by omega
  have hs1 : 0 ≤ which % 7 := by omega
  have hns := Cm.nm7_short j
  clear hq hk hfin hst h00 hpr hj hjc
  generalize Cm.nm7.getD j [] = nm at *
  go_enter Try.func6, Try.ntmps6
  go_upto_region 5 with (fail)
  obtain ⟨wb, hwb⟩ : ∃ wb, w.alloc (.cells #[.string ⟨#[77, 83, 69, 84]⟩, .string ⟨#[77, 83, 69, 84, 78, 88]⟩, .string ⟨#[68, 69, 76]⟩, .string ⟨#[77, 71, 69, 84]⟩, .string ⟨#[69, 88, 73, 83, 84, 83]⟩, .string ⟨#[72, 83, 69, 84]⟩, .string ⟨#[83, 73, 78, 84, 69, 82]⟩] 9) = wb := ⟨_, rfl⟩
  have hbb : Below w.heap.size w wb := by rw [← hwb]; exact (Below.refl _ w).alloc (Nat.le_refl _) _
  have hsz : wb.heap.size = w.heap.size + 1 := by rw [← hwb]; simp
  have hr0 := RowW.one hbb nm
  rw [hsz] at hr0
  rw [hwb, HKk.out]
  clear hwb hsz hc
  obtain ⟨wd, hwd⟩ : ∃ wd, wb.alloc (.cells #[.string ⟨nm.toArray⟩] 9) = wd := ⟨_, rfl⟩
  rw [hwd] at hr0 ⊢
  have hR : RowW w (.slice (some ⟨w.heap.size + 1, 0, none⟩) 1 1) (Cm.pwTo j 0) wd := by rw [H00.out]; exact hr0
  have HR := Lib.hid hR
  clear hwd hbb hr0 hR
  go_wp2
  go_loopw [10, 11] (fun v i wr => ∃ (m : Nat) (sv : Value), m ≤ k + 1 ∧ i = .int .i64 m ∧ sv = v ∧ Hid (RowW w sv (Cm.pwTo j m) wr)) (fun _ i _ => k + 1 - (intOf i).toNat)
  case atStart => exact ⟨0, _, by omega, rfl, rfl, HR⟩
  case round =>
    obtain ⟨m, sv, hm, rfl, rfl, HRm⟩ := hrel
    have hlm := HL.out m
    have hszr := HRm.out.2.size
    by_cases hlt : m < k + 1
    · have hltI : (m : Int) < 1 + (k : Int) := by omega
      have hdig := fun W => digits_c m W (by omega)
      have hcat := str_two 107 (Cm.dg m)
      have hkl := @Cm.kd_len m
      have hkm : Cm.kd m = 107 :: Cm.dg m := rfl
      rw [← hkm] at hcat
      have hdl : (Cm.dg m).length ≤ 3 := by rw [hkm] at hkl; simp at hkl; omega
      have hst1 := HST.out m
      have HS1 := Lib.hid hst1
      have HD := Lib.hid hdig
      clear hst1 hdig hkm
      generalize Cm.kd m = km at *
      generalize Cm.dg m = dm at *
      go_wp2_with (first | (go_at_call 18; refine (HD.out _).mono ?_; rintro e w5 ⟨rfl, hb5⟩; have hr5 := HRm.out.later hb5; have hsz5 := hr5.2.size; clear hb5) | (at_builtin; refine wpList_append_own _ rfl (.tmp 45) (.tmp 49) 22 rfl w.heap.size 9 i0 (.string ⟨#[]⟩) 1 16 Try.underlying22 hi hz0 hz1 hz2 rfl (by decide) _ _ _ rfl (hr5.1.alloc _) ⟨w5.heap.size, 0, none⟩ 1 1 [.string ⟨km.toArray⟩] rfl rfl ?b1 ?b2 ?b3 ?b4 ?b5 ?_))
      case b1 => exact one_news _ _ rfl _ _
      case b2 => intro u hu; simp at hu; subst hu; rfl
      case b3 => unfold maxLen; omega
      case b4 => omega
      case b5 => simp; omega
      intro v6 w6 hown6 hgrow6 _
      have hr6 := hr5.append hown6 hgrow6
      have hl6 : (Cm.pwTo j m ++ [km]).length = (Cm.pwTo j m).length + 1 := by simp
      clear hown6 hgrow6 hr5 hcat
      have hsz6 := hr6.2.size
      go_wp2_with (at_builtin; refine wpList_append_own _ rfl (.tmp 52) (.tmp 53) 22 rfl w.heap.size 9 i0 (.string ⟨#[]⟩) 1 16 Try.underlying22 hi hz0 hz1 hz2 rfl (by decide) _ _ _ rfl (hr6.1.alloc _) ⟨w6.heap.size, 0, none⟩ 1 1 [.string ⟨#[118]⟩] rfl rfl ?d1 ?d2 ?d3 ?d4 ?d5 ?_)
      case d1 => exact one_news _ _ rfl _ _
      case d2 => intro u hu; simp at hu; subst hu; rfl
      case d3 => unfold maxLen; omega
      case d4 => omega
      case d5 => simp; omega
      intro v7 w7 hown7 hgrow7 _
      have hr7 : RowW w v7 (Cm.pwTo j (m + 1)) w7 := by rw [← hl6] at hown7; rw [HS1.out]; have := hr6.append hown7 hgrow7; simpa using this
      have HR7 := Lib.hid hr7
      clear hown7 hgrow7 hr6 hr7 hl6
      go_wp2
      go_roundw
      case rel => exact ⟨m + 1, _, by omega, by go_num, rfl, HR7⟩
      case measure => simp [intOf]; omega
    · obtain rfl : m = k + 1 := by omega
      have hge : 1 + (k : Int) ≤ ((k + 1 : Nat) : Int) := by omega
      have hgd : decide ((k : Int) + 1 < 1 + (k : Int)) = false := by rw [decide_eq_false_iff_not]; omega
      have hgn : ((k : Int) + 1 != 1 + (k : Int)) = false := by rw [bne_eq_false_iff_eq]; omega
      have hgb : ((k : Int) + 1 == 1 + (k : Int)) = true := by rw [beq_iff_eq]; omega
      have hr8 := HRm.out
      have HShw := Lib.hid (show ∀ s ∈ Cm.pwTo j (k + 1), s.length ≤ 9223372036854775807 from fun s hs => by have := HSh.out s hs; omega)
      obtain ⟨a8, c8, rfl, hwd8⟩ := hr8.words HShw.out
      have hky := keys_c a8 c8 _ wr hwd8
      rw [HFin.out] at hky
      have HKy := Lib.hid hky
      have HR8 := Lib.hid hr8
      clear HRm hr8 hwd8 hky
      generalize (Cm.pwTo j (k + 1)).length = lw at *
      have hkl : (Cm.kdTo (k + 1)).length = k + 1 := by simp [Cm.kdTo]
      have hkg : ∀ i, i < k + 1 → (Cm.kdTo (k + 1)).getD i [] = Cm.kd i := fun i hi => by rw [Cm.getD_eq (by rw [hkl]; exact hi)]; simp [Cm.kdTo]
      have HKL := Lib.hid hkl
      have HKG := Lib.hid hkg
      clear hkl hkg
      generalize Cm.kdTo (k + 1) = ks at *
      go_wp2_with (go_at_call 14; refine HKy.out.mono ?_; rintro e w9 ⟨a9, c9, rfl, hwd9, hb9⟩; rw [HKL.out]; have HB9 := Lib.hid hb9; have HW9 := Lib.hid hwd9; clear hb9 hwd9)
      go_loopw [6, 15] (fun r i wr => ∃ m : Nat, m ≤ k + 1 ∧ r = .bool false ∧ i = .int .i64 m ∧ Hid (Below w9.heap.size w9 wr)) (fun _ i _ => k + 1 - (intOf i).toNat)
      case atStart => exact ⟨0, by omega, rfl, rfl, Lib.hid (Below.refl _ _)⟩
      case round =>
        obtain ⟨m, hm, rfl, rfl, HBm⟩ := hrel
        by_cases hlt : m < k + 1
        · have hltI : (m : Int) < 1 + (k : Int) := by omega
          have hltI2 : (m : Int) < ((k + 1 : Nat) : Int) := by omega
          have hltI3 : (m : Int) < (k : Int) + 1 := by omega
          have hmI : (0 : Int) ≤ (m : Int) := by omega
          have hmT : ((m : Int)).toNat = m := by omega
          obtain ⟨b9, o9, rfl, hlt9, hc9⟩ := HW9.out.get (by rw [HKL.out]; omega)
          have q0 := hc9 m (by rw [HKL.out]; exact hlt)
          rw [HKG.out m hlt] at q0
          have q1 := (HBm.out.cell (p := ⟨b9, o9 + m, none⟩) hlt9).trans q0
          have hblt : b9 < wr.heap.size := Nat.lt_of_lt_of_le hlt9 HBm.out.size
          have hdig := fun W => digits_c m W (by omega)
          have hcat := str_two 107 (Cm.dg m)
          have hkl := @Cm.kd_len m
          have hkm : Cm.kd m = 107 :: Cm.dg m := rfl
          rw [← hkm] at hcat
          have hdl : (Cm.dg m).length ≤ 3 := by rw [hkm] at hkl; simp at hkl; omega
          have hadd : ∀ W, (Op.stringOp .add ⟨#[107]⟩ ⟨(Cm.dg m).toArray⟩).run Try.prog W = .ok (.string ⟨(Cm.kd m).toArray⟩) W := fun W => (run_string_add_sum _ _ _ (by simp [ByteArray.size]; omega)).trans (by rw [hcat])
          have HD := Lib.hid hdig
          clear hdig hkm hc9 q0 hcat
          generalize Cm.kd m = km at *
          generalize Cm.dg m = dm at *
          go_wp2
          go_region_held3 (fun w' => w'.cell? ⟨b9, o9 + m, none⟩ = some (.string ⟨km.toArray⟩))
            (first | go_keep | exact (hb12.cell (p := ⟨b9, o9 + m, none⟩) hblt).trans q1)
            ((go_at_call 18; refine (HD.out _).mono ?_; rintro e w12 ⟨rfl, hb12⟩))
          have HB12 := Lib.hid (HBm.out.trans ((((Below.refl wr.heap.size wr).drew).trans hb12).mono HBm.out.size))
          clear hb12
          go_wp2
          go_roundw
          case rel => exact ⟨m + 1, by omega, rfl, by go_num, HB12⟩
          case measure => simp [intOf]; omega
        · obtain rfl : m = k + 1 := by omega
          have hge2 : 1 + (k : Int) ≤ ((k + 1 : Nat) : Int) := by omega
          have HBm' := HBm
          clear HBm
          go_wp2_with (go_at_call 8; refine (awake_any _).mono ?_; rintro e w11 ⟨rfl, hb11⟩; have HB11 := Lib.hid hb11; clear hb11)
          go_ret
          exact ⟨rfl, (HR8.out.2.trans (HB9.out.mono HR8.out.2.size)).trans ((HBm'.out.trans (HB11.out.mono HBm'.out.size)).mono (Nat.le_trans HR8.out.2.size HB9.out.size))⟩

set_option maxRecDepth 100000 in
set_option maxHeartbeats 4000000 in
theorem cmdPairs_by (n which : Int) (w : World) (hn : 0 ≤ n ∧ n ≤ 255) (hw : 0 ≤ which ∧ which ≤ 255) (k j : Nat) (hk : n % 20 = (k : Int)) (hk2 : k < 20) (hj : which % 7 = (j : Int)) (hj2 : j < 7) (hjc : j = 5) :
    Calls Try.prog 6 #[.int .u8 n, .int .u8 which, .bool true] w fun e w' => e = .returned (.bool true) ∧ Below w.heap.size w w' := by
  obtain ⟨i0, hi, hz0, hz1, hz2⟩ := info_parts info9
  obtain ⟨n1, n2⟩ := hn
  obtain ⟨w1, w2⟩ := hw
  have hjn : (which % 7).toNat = j := by omega
  have hc := nm7_cell w j hj2
  have hq := Cm.hset7 hj2
  have hq2 : (Cm.nm7.getD j [] == [72, 83, 69, 84]) = true := by rw [hq, hjc]; rfl
  have hb1 : 2 ≤ which % 7 := by omega
  have hb2 : (which % 7 == 5) = true := by rw [beq_iff_eq]; omega
  have hpr : Cm.pr7 j = true := by unfold Cm.pr7; simp; omega
  have hst : ∀ m, Cm.pwTo j (m + 1) = Cm.pwTo j m ++ [Cm.kd m, [118]] := by intro m; rw [Cm.pwTo, hpr]; rfl
  have h00 : Cm.pwTo j 0 = Cm.nm7.getD j [] :: [[107, 101, 121]] := by unfold Cm.pwTo Cm.pw0; rw [if_pos hjc]
  have hfin := Cm.pairs_odd hj2 hk2 hpr
  have HFin := Lib.hid hfin
  have HST := Lib.hid hst
  have H00 := Lib.hid h00
  have HKk := Lib.hid hk
  have HL := Lib.hid (Cm.pwTo_len j)
  have HSh := Lib.hid (Cm.pwTo_short j (k + 1))
  have hs0 : (which % 7) < 7 := by omega
  have hs1 : 0 ≤ which % 7 := by omega
  have hns := Cm.nm7_short j
  clear hq hk hfin hst h00 hpr hj hjc
  generalize Cm.nm7.getD j [] = nm at *
  go_enter Try.func6, Try.ntmps6
  go_upto_region 5 with (fail)
  obtain ⟨wb, hwb⟩ : ∃ wb, w.alloc (.cells #[.string ⟨#[77, 83, 69, 84]⟩, .string ⟨#[77, 83, 69, 84, 78, 88]⟩, .string ⟨#[68, 69, 76]⟩, .string ⟨#[77, 71, 69, 84]⟩, .string ⟨#[69, 88, 73, 83, 84, 83]⟩, .string ⟨#[72, 83, 69, 84]⟩, .string ⟨#[83, 73, 78, 84, 69, 82]⟩] 9) = wb := ⟨_, rfl⟩
  have hbb : Below w.heap.size w wb := by rw [← hwb]; exact (Below.refl _ w).alloc (Nat.le_refl _) _
  have hsz : wb.heap.size = w.heap.size + 1 := by rw [← hwb]; simp
  have hr0 := RowW.one hbb nm
  rw [hsz] at hr0
  rw [hwb, HKk.out]
  clear hwb hsz hc
  obtain ⟨wc, hwc⟩ : ∃ wc, wb.alloc (.cells #[.string ⟨nm.toArray⟩] 9) = wc := ⟨_, rfl⟩
  rw [hwc] at hr0 ⊢
  clear hwc hbb
  have hsc := hr0.2.size
  go_wp2_with (at_builtin; refine wpList_append_own _ rfl (.tmp 37) (.tmp 38) 22 rfl w.heap.size 9 i0 (.string ⟨#[]⟩) 1 16 Try.underlying22 hi hz0 hz1 hz2 rfl (by decide) _ _ _ rfl (hr0.1.alloc _) ⟨wc.heap.size, 0, none⟩ 1 1 [.string ⟨#[107, 101, 121]⟩] rfl rfl ?a1 ?a2 ?a3 ?a4 ?a5 ?_)
  case a1 => exact one_news _ _ rfl _ _
  case a2 => intro u hu; simp at hu; subst hu; rfl
  case a3 => unfold maxLen; simp
  case a4 => simp
  case a5 => simp; omega
  intro v1 wd hown1 hgrow _
  have hR : RowW w v1 (Cm.pwTo j 0) wd := by rw [H00.out]; exact hr0.append hown1 hgrow
  have HR := Lib.hid hR
  clear hown1 hgrow hr0 hR hsc
  go_wp2
  go_loopw [10, 11] (fun v i wr => ∃ (m : Nat) (sv : Value), m ≤ k + 1 ∧ i = .int .i64 m ∧ sv = v ∧ Hid (RowW w sv (Cm.pwTo j m) wr)) (fun _ i _ => k + 1 - (intOf i).toNat)
  case atStart => exact ⟨0, _, by omega, rfl, rfl, HR⟩
  case round =>
    obtain ⟨m, sv, hm, rfl, rfl, HRm⟩ := hrel
    have hlm := HL.out m
    have hszr := HRm.out.2.size
    by_cases hlt : m < k + 1
    · have hltI : (m : Int) < 1 + (k : Int) := by omega
      have hdig := fun W => digits_c m W (by omega)
      have hcat := str_two 107 (Cm.dg m)
      have hkl := @Cm.kd_len m
      have hkm : Cm.kd m = 107 :: Cm.dg m := rfl
      rw [← hkm] at hcat
      have hdl : (Cm.dg m).length ≤ 3 := by rw [hkm] at hkl; simp at hkl; omega
      have hst1 := HST.out m
      have HS1 := Lib.hid hst1
      have HD := Lib.hid hdig
      clear hst1 hdig hkm
      generalize Cm.kd m = km at *
      generalize Cm.dg m = dm at *
      go_wp2_with (first | (go_at_call 18; refine (HD.out _).mono ?_; rintro e w5 ⟨rfl, hb5⟩; have hr5 := HRm.out.later hb5; have hsz5 := hr5.2.size; clear hb5) | (at_builtin; refine wpList_append_own _ rfl (.tmp 45) (.tmp 49) 22 rfl w.heap.size 9 i0 (.string ⟨#[]⟩) 1 16 Try.underlying22 hi hz0 hz1 hz2 rfl (by decide) _ _ _ rfl (hr5.1.alloc _) ⟨w5.heap.size, 0, none⟩ 1 1 [.string ⟨km.toArray⟩] rfl rfl ?b1 ?b2 ?b3 ?b4 ?b5 ?_))
      case b1 => exact one_news _ _ rfl _ _
      case b2 => intro u hu; simp at hu; subst hu; rfl
      case b3 => unfold maxLen; omega
      case b4 => omega
      case b5 => simp; omega
      intro v6 w6 hown6 hgrow6 _
      have hr6 := hr5.append hown6 hgrow6
      have hl6 : (Cm.pwTo j m ++ [km]).length = (Cm.pwTo j m).length + 1 := by simp
      clear hown6 hgrow6 hr5 hcat
      have hsz6 := hr6.2.size
      go_wp2_with (at_builtin; refine wpList_append_own _ rfl (.tmp 52) (.tmp 53) 22 rfl w.heap.size 9 i0 (.string ⟨#[]⟩) 1 16 Try.underlying22 hi hz0 hz1 hz2 rfl (by decide) _ _ _ rfl (hr6.1.alloc _) ⟨w6.heap.size, 0, none⟩ 1 1 [.string ⟨#[118]⟩] rfl rfl ?d1 ?d2 ?d3 ?d4 ?d5 ?_)
      case d1 => exact one_news _ _ rfl _ _
      case d2 => intro u hu; simp at hu; subst hu; rfl
      case d3 => unfold maxLen; omega
      case d4 => omega
      case d5 => simp; omega
      intro v7 w7 hown7 hgrow7 _
      have hr7 : RowW w v7 (Cm.pwTo j (m + 1)) w7 := by rw [← hl6] at hown7; rw [HS1.out]; have := hr6.append hown7 hgrow7; simpa using this
      have HR7 := Lib.hid hr7
      clear hown7 hgrow7 hr6 hr7 hl6
      go_wp2
      go_roundw
      case rel => exact ⟨m + 1, _, by omega, by go_num, rfl, HR7⟩
      case measure => simp [intOf]; omega
    · obtain rfl : m = k + 1 := by omega
      have hge : 1 + (k : Int) ≤ ((k + 1 : Nat) : Int) := by omega
      have hgd : decide ((k : Int) + 1 < 1 + (k : Int)) = false := by rw [decide_eq_false_iff_not]; omega
      have hgn : ((k : Int) + 1 != 1 + (k : Int)) = false := by rw [bne_eq_false_iff_eq]; omega
      have hgb : ((k : Int) + 1 == 1 + (k : Int)) = true := by rw [beq_iff_eq]; omega
      have hr8 := HRm.out
      have hlw := HL.out (k + 1)
      have HShw := Lib.hid (show ∀ s ∈ Cm.pwTo j (k + 1) ++ [[120]], s.length ≤ 9223372036854775807 from fun s hs => by
        rcases List.mem_append.1 hs with h | h
        · have := HSh.out s h; omega
        · rw [List.mem_singleton.1 h]; simp)
      clear HRm
      generalize Cm.pwTo j (k + 1) = ws at *
      go_wp2_with (at_builtin; refine wpList_append_own _ rfl (.tmp 60) (.tmp 61) 22 rfl w.heap.size 9 i0 (.string ⟨#[]⟩) 1 16 Try.underlying22 hi hz0 hz1 hz2 rfl (by decide) _ _ _ rfl (hr8.1.alloc _) ⟨wr.heap.size, 0, none⟩ 1 1 [.string ⟨#[120]⟩] rfl rfl ?g1 ?g2 ?g3 ?g4 ?g5 ?_)
      case g1 => exact one_news _ _ rfl _ _
      case g2 => intro u hu; simp at hu; subst hu; rfl
      case g3 => unfold maxLen; omega
      case g4 => omega
      case g5 => simp; omega
      intro v9 w9 hown9 hgrow9 _
      have hr9 : RowW w v9 (ws ++ [[120]]) w9 := hr8.append hown9 hgrow9
      obtain ⟨a9, c9, rfl, hwd9⟩ := hr9.words HShw.out
      have hck := check_c a9 c9 _ w9 hwd9
      unfold chkV at hck
      rw [HFin.out] at hck
      have HCk := Lib.hid hck
      have HR9 := Lib.hid hr9
      clear hown9 hgrow9 hr8 hr9 hwd9 hck
      generalize (ws ++ [[120]] : List (List UInt8)).length = lw at *
      go_wp2_with (go_at_call 9; refine HCk.out.mono ?_; rintro e w10 ⟨rfl, hb10⟩; have HB10 := Lib.hid hb10; clear hb10; simp only [spV, zeroSp])
      go_wp2_with (go_at_call 8; refine (awake_any _).mono ?_; rintro e w11 ⟨rfl, hb11⟩; have HB11 := Lib.hid hb11; clear hb11)
      go_ret
      exact ⟨rfl, (HR9.out.2.trans (HB10.out.mono HR9.out.2.size)).trans ((((Below.refl _ w10).alloc (Nat.le_refl _) _).trans (HB11.out.mono (by simp))).mono (Nat.le_trans HR9.out.2.size HB10.out.size))⟩

set_option maxRecDepth 100000 in
set_option maxHeartbeats 4000000 in
theorem cmdPairs_bn (n which : Int) (w : World) (hn : 0 ≤ n ∧ n ≤ 255) (hw : 0 ≤ which ∧ which ≤ 255) (k j : Nat) (hk : n % 20 = (k : Int)) (hk2 : k < 20) (hj : which % 7 = (j : Int)) (hj2 : j < 7) (hjc : j = 5) :
    Calls Try.prog 6 #[.int .u8 n, .int .u8 which, .bool false] w fun e w' => e = .returned (.bool true) ∧ Below w.heap.size w w' := by
  obtain ⟨i0, hi, hz0, hz1, hz2⟩ := info_parts info9
  obtain ⟨n1, n2⟩ := hn
  obtain ⟨w1, w2⟩ := hw
  have hjn : (which % 7).toNat = j := by omega
  have hc := nm7_cell w j hj2
  have hq := Cm.hset7 hj2
  have hq2 : (Cm.nm7.getD j [] == [72, 83, 69, 84]) = true := by rw [hq, hjc]; rfl
  have hb1 : 2 ≤ which % 7 := by omega
  have hb2 : (which % 7 == 5) = true := by rw [beq_iff_eq]; omega
  have hpr : Cm.pr7 j = true := by unfold Cm.pr7; simp; omega
  have hst : ∀ m, Cm.pwTo j (m + 1) = Cm.pwTo j m ++ [Cm.kd m, [118]] := by intro m; rw [Cm.pwTo, hpr]; rfl
  have h00 : Cm.pwTo j 0 = Cm.nm7.getD j [] :: [[107, 101, 121]] := by unfold Cm.pwTo Cm.pw0; rw [if_pos hjc]
  have hfin : Cm.keysOf (Cm.pwTo j (k + 1)) = [[107, 101, 121]] := by rw [hjc]; exact Cm.pairs_hset hk2
  have HFin := Lib.hid hfin
  have HST := Lib.hid hst
  have H00 := Lib.hid h00
  have HKk := Lib.hid hk
  have HL := Lib.hid (Cm.pwTo_len j)
  have HSh := Lib.hid (Cm.pwTo_short j (k + 1))
  have hs0 : (which % 7) < 7 := by omega
  have hs1 : 0 ≤ which % 7 := by omega
  have hns := Cm.nm7_short j
  clear hq hk hfin hst h00 hpr hj hjc
  generalize Cm.nm7.getD j [] = nm at *
  go_enter Try.func6, Try.ntmps6
  go_upto_region 5 with (fail)
  obtain ⟨wb, hwb⟩ : ∃ wb, w.alloc (.cells #[.string ⟨#[77, 83, 69, 84]⟩, .string ⟨#[77, 83, 69, 84, 78, 88]⟩, .string ⟨#[68, 69, 76]⟩, .string ⟨#[77, 71, 69, 84]⟩, .string ⟨#[69, 88, 73, 83, 84, 83]⟩, .string ⟨#[72, 83, 69, 84]⟩, .string ⟨#[83, 73, 78, 84, 69, 82]⟩] 9) = wb := ⟨_, rfl⟩
  have hbb : Below w.heap.size w wb := by rw [← hwb]; exact (Below.refl _ w).alloc (Nat.le_refl _) _
  have hsz : wb.heap.size = w.heap.size + 1 := by rw [← hwb]; simp
  have hr0 := RowW.one hbb nm
  rw [hsz] at hr0
  rw [hwb, HKk.out]
  clear hwb hsz hc
  obtain ⟨wc, hwc⟩ : ∃ wc, wb.alloc (.cells #[.string ⟨nm.toArray⟩] 9) = wc := ⟨_, rfl⟩
  rw [hwc] at hr0 ⊢
  clear hwc hbb
  have hsc := hr0.2.size
  go_wp2_with (at_builtin; refine wpList_append_own _ rfl (.tmp 37) (.tmp 38) 22 rfl w.heap.size 9 i0 (.string ⟨#[]⟩) 1 16 Try.underlying22 hi hz0 hz1 hz2 rfl (by decide) _ _ _ rfl (hr0.1.alloc _) ⟨wc.heap.size, 0, none⟩ 1 1 [.string ⟨#[107, 101, 121]⟩] rfl rfl ?a1 ?a2 ?a3 ?a4 ?a5 ?_)
  case a1 => exact one_news _ _ rfl _ _
  case a2 => intro u hu; simp at hu; subst hu; rfl
  case a3 => unfold maxLen; simp
  case a4 => simp
  case a5 => simp; omega
  intro v1 wd hown1 hgrow _
  have hR : RowW w v1 (Cm.pwTo j 0) wd := by rw [H00.out]; exact hr0.append hown1 hgrow
  have HR := Lib.hid hR
  clear hown1 hgrow hr0 hR hsc
  go_wp2
  go_loopw [10, 11] (fun v i wr => ∃ (m : Nat) (sv : Value), m ≤ k + 1 ∧ i = .int .i64 m ∧ sv = v ∧ Hid (RowW w sv (Cm.pwTo j m) wr)) (fun _ i _ => k + 1 - (intOf i).toNat)
  case atStart => exact ⟨0, _, by omega, rfl, rfl, HR⟩
  case round =>
    obtain ⟨m, sv, hm, rfl, rfl, HRm⟩ := hrel
    have hlm := HL.out m
    have hszr := HRm.out.2.size
    by_cases hlt : m < k + 1
    · have hltI : (m : Int) < 1 + (k : Int) := by omega
      have hdig := fun W => digits_c m W (by omega)
      have hcat := str_two 107 (Cm.dg m)
      have hkl := @Cm.kd_len m
      have hkm : Cm.kd m = 107 :: Cm.dg m := rfl
      rw [← hkm] at hcat
      have hdl : (Cm.dg m).length ≤ 3 := by rw [hkm] at hkl; simp at hkl; omega
      have hst1 := HST.out m
      have HS1 := Lib.hid hst1
      have HD := Lib.hid hdig
      clear hst1 hdig hkm
      generalize Cm.kd m = km at *
      generalize Cm.dg m = dm at *
      go_wp2_with (first | (go_at_call 18; refine (HD.out _).mono ?_; rintro e w5 ⟨rfl, hb5⟩; have hr5 := HRm.out.later hb5; have hsz5 := hr5.2.size; clear hb5) | (at_builtin; refine wpList_append_own _ rfl (.tmp 45) (.tmp 49) 22 rfl w.heap.size 9 i0 (.string ⟨#[]⟩) 1 16 Try.underlying22 hi hz0 hz1 hz2 rfl (by decide) _ _ _ rfl (hr5.1.alloc _) ⟨w5.heap.size, 0, none⟩ 1 1 [.string ⟨km.toArray⟩] rfl rfl ?b1 ?b2 ?b3 ?b4 ?b5 ?_))
      case b1 => exact one_news _ _ rfl _ _
      case b2 => intro u hu; simp at hu; subst hu; rfl
      case b3 => unfold maxLen; omega
      case b4 => omega
      case b5 => simp; omega
      intro v6 w6 hown6 hgrow6 _
      have hr6 := hr5.append hown6 hgrow6
      have hl6 : (Cm.pwTo j m ++ [km]).length = (Cm.pwTo j m).length + 1 := by simp
      clear hown6 hgrow6 hr5 hcat
      have hsz6 := hr6.2.size
      go_wp2_with (at_builtin; refine wpList_append_own _ rfl (.tmp 52) (.tmp 53) 22 rfl w.heap.size 9 i0 (.string ⟨#[]⟩) 1 16 Try.underlying22 hi hz0 hz1 hz2 rfl (by decide) _ _ _ rfl (hr6.1.alloc _) ⟨w6.heap.size, 0, none⟩ 1 1 [.string ⟨#[118]⟩] rfl rfl ?d1 ?d2 ?d3 ?d4 ?d5 ?_)
      case d1 => exact one_news _ _ rfl _ _
      case d2 => intro u hu; simp at hu; subst hu; rfl
      case d3 => unfold maxLen; omega
      case d4 => omega
      case d5 => simp; omega
      intro v7 w7 hown7 hgrow7 _
      have hr7 : RowW w v7 (Cm.pwTo j (m + 1)) w7 := by rw [← hl6] at hown7; rw [HS1.out]; have := hr6.append hown7 hgrow7; simpa using this
      have HR7 := Lib.hid hr7
      clear hown7 hgrow7 hr6 hr7 hl6
      go_wp2
      go_roundw
      case rel => exact ⟨m + 1, _, by omega, by go_num, rfl, HR7⟩
      case measure => simp [intOf]; omega
    · obtain rfl : m = k + 1 := by omega
      have hge : 1 + (k : Int) ≤ ((k + 1 : Nat) : Int) := by omega
      have hgd : decide ((k : Int) + 1 < 1 + (k : Int)) = false := by rw [decide_eq_false_iff_not]; omega
      have hgn : ((k : Int) + 1 != 1 + (k : Int)) = false := by rw [bne_eq_false_iff_eq]; omega
      have hgb : ((k : Int) + 1 == 1 + (k : Int)) = true := by rw [beq_iff_eq]; omega
      have hr8 := HRm.out
      have HShw := Lib.hid (show ∀ s ∈ Cm.pwTo j (k + 1), s.length ≤ 9223372036854775807 from fun s hs => by have := HSh.out s hs; omega)
      obtain ⟨a8, c8, rfl, hwd8⟩ := hr8.words HShw.out
      have hky := keys_c a8 c8 _ wr hwd8
      rw [HFin.out] at hky
      have HKy := Lib.hid hky
      have HR8 := Lib.hid hr8
      clear HRm hr8 hwd8 hky
      generalize (Cm.pwTo j (k + 1)).length = lw at *
      go_wp2_with (go_at_call 14; refine HKy.out.mono ?_; rintro e w9 ⟨a9, c9, rfl, hwd9, hb9⟩; obtain ⟨b9, o9, rfl, hlt9, hc9⟩ := hwd9.get (by decide); have q0 : w9.cell? ⟨b9, o9, none⟩ = some (.string ⟨#[107, 101, 121]⟩) := hc9 0 (by decide); have HB9 := Lib.hid hb9; clear hb9 hwd9 hc9)
      go_wp2_with (go_at_call 8; refine (awake_any _).mono ?_; rintro e w11 ⟨rfl, hb11⟩; have HB11 := Lib.hid hb11; clear hb11)
      go_ret
      exact ⟨rfl, (HR8.out.2.trans (HB9.out.mono HR8.out.2.size)).trans (HB11.out.mono (Nat.le_trans HR8.out.2.size HB9.out.size))⟩

set_option maxRecDepth 100000 in
set_option maxHeartbeats 4000000 in
theorem cmdPairs_cy (n which : Int) (w : World) (hn : 0 ≤ n ∧ n ≤ 255) (hw : 0 ≤ which ∧ which ≤ 255) (k j : Nat) (hk : n % 20 = (k : Int)) (hk2 : k < 20) (hj : which % 7 = (j : Int)) (hj2 : j < 7) (hjc : 2 ≤ j ∧ j ≠ 5) :
    Calls Try.prog 6 #[.int .u8 n, .int .u8 which, .bool true] w fun e w' => e = .returned (.bool true) ∧ Below w.heap.size w w' := by
  obtain ⟨i0, hi, hz0, hz1, hz2⟩ := info_parts info9
  obtain ⟨n1, n2⟩ := hn
  obtain ⟨w1, w2⟩ := hw
  have hjn : (which % 7).toNat = j := by omega
  have hc := nm7_cell w j hj2
  have hq := Cm.hset7 hj2
  have hq2 : (Cm.nm7.getD j [] == [72, 83, 69, 84]) = false := by rw [hq]; simp; omega
  have hb1 : 2 ≤ which % 7 := by omega
  have hb2 : (which % 7 == 5) = false := by rw [beq_eq_false_iff_ne]; omega
  have hpr : Cm.pr7 j = false := by unfold Cm.pr7; simp; omega
  have hst : ∀ m, Cm.pwTo j (m + 1) = Cm.pwTo j m ++ [Cm.kd m] := by intro m; rw [Cm.pwTo, hpr]; rfl
  have h00 : Cm.pwTo j 0 = Cm.nm7.getD j [] :: [] := by unfold Cm.pwTo Cm.pw0; rw [if_neg (by omega)]
  have hfin := Cm.pairs_keys hj2 hk2 (by omega)
  have HFin := Lib.hid hfin
  have HST := Lib.hid hst
  have H00 := Lib.hid h00
  have HKk := Lib.hid hk
  have HL := Lib.hid (Cm.pwTo_len j)
  have HSh := Lib.hid (Cm.pwTo_short j (k + 1))
  have hs0 : (which % 7) < 7 := by omega
  have hs1 : 0 ≤ which % 7 := by omega
  have hns := Cm.nm7_short j
  clear hq hk hfin hst h00 hpr hj hjc
  generalize Cm.nm7.getD j [] = nm at *
  go_enter Try.func6, Try.ntmps6
  go_upto_region 5 with (fail)
  obtain ⟨wb, hwb⟩ : ∃ wb, w.alloc (.cells #[.string ⟨#[77, 83, 69, 84]⟩, .string ⟨#[77, 83, 69, 84, 78, 88]⟩, .string ⟨#[68, 69, 76]⟩, .string ⟨#[77, 71, 69, 84]⟩, .string ⟨#[69, 88, 73, 83, 84, 83]⟩, .string ⟨#[72, 83, 69, 84]⟩, .string ⟨#[83, 73, 78, 84, 69, 82]⟩] 9) = wb := ⟨_, rfl⟩
  have hbb : Below w.heap.size w wb := by rw [← hwb]; exact (Below.refl _ w).alloc (Nat.le_refl _) _
  have hsz : wb.heap.size = w.heap.size + 1 := by rw [← hwb]; simp
  have hr0 := RowW.one hbb nm
  rw [hsz] at hr0
  rw [hwb, HKk.out]
  clear hwb hsz hc
  obtain ⟨wd, hwd⟩ : ∃ wd, wb.alloc (.cells #[.string ⟨nm.toArray⟩] 9) = wd := ⟨_, rfl⟩
  rw [hwd] at hr0 ⊢
  have hR : RowW w (.slice (some ⟨w.heap.size + 1, 0, none⟩) 1 1) (Cm.pwTo j 0) wd := by rw [H00.out]; exact hr0
  have HR := Lib.hid hR
  clear hwd hbb hr0 hR
  go_wp2
  go_loopw [10, 11] (fun v i wr => ∃ (m : Nat) (sv : Value), m ≤ k + 1 ∧ i = .int .i64 m ∧ sv = v ∧ Hid (RowW w sv (Cm.pwTo j m) wr)) (fun _ i _ => k + 1 - (intOf i).toNat)
  case atStart => exact ⟨0, _, by omega, rfl, rfl, HR⟩
  case round =>
    obtain ⟨m, sv, hm, rfl, rfl, HRm⟩ := hrel
    have hlm := HL.out m
    have hszr := HRm.out.2.size
    by_cases hlt : m < k + 1
    · have hltI : (m : Int) < 1 + (k : Int) := by omega
      have hdig := fun W => digits_c m W (by omega)
      have hcat := str_two 107 (Cm.dg m)
      have hkl := @Cm.kd_len m
      have hkm : Cm.kd m = 107 :: Cm.dg m := rfl
      rw [← hkm] at hcat
      have hdl : (Cm.dg m).length ≤ 3 := by rw [hkm] at hkl; simp at hkl; omega
      have hst1 := HST.out m
      have HS1 := Lib.hid hst1
      have HD := Lib.hid hdig
      clear hst1 hdig hkm
      generalize Cm.kd m = km at *
      generalize Cm.dg m = dm at *
      go_wp2_with (first | (go_at_call 18; refine (HD.out _).mono ?_; rintro e w5 ⟨rfl, hb5⟩; have hr5 := HRm.out.later hb5; have hsz5 := hr5.2.size; clear hb5) | (at_builtin; refine wpList_append_own _ rfl (.tmp 45) (.tmp 49) 22 rfl w.heap.size 9 i0 (.string ⟨#[]⟩) 1 16 Try.underlying22 hi hz0 hz1 hz2 rfl (by decide) _ _ _ rfl (hr5.1.alloc _) ⟨w5.heap.size, 0, none⟩ 1 1 [.string ⟨km.toArray⟩] rfl rfl ?b1 ?b2 ?b3 ?b4 ?b5 ?_))
      case b1 => exact one_news _ _ rfl _ _
      case b2 => intro u hu; simp at hu; subst hu; rfl
      case b3 => unfold maxLen; omega
      case b4 => omega
      case b5 => simp; omega
      intro v6 w6 hown6 hgrow6 _
      have hr6 := hr5.append hown6 hgrow6
      have hl6 : (Cm.pwTo j m ++ [km]).length = (Cm.pwTo j m).length + 1 := by simp
      clear hown6 hgrow6 hr5 hcat
      have HR7 : Hid (RowW w v6 (Cm.pwTo j (m + 1)) w6) := Lib.hid (by rw [HS1.out]; exact hr6)
      clear hr6 hl6
      go_wp2
      go_roundw
      case rel => exact ⟨m + 1, _, by omega, by go_num, rfl, HR7⟩
      case measure => simp [intOf]; omega
    · obtain rfl : m = k + 1 := by omega
      have hge : 1 + (k : Int) ≤ ((k + 1 : Nat) : Int) := by omega
      have hgd : decide ((k : Int) + 1 < 1 + (k : Int)) = false := by rw [decide_eq_false_iff_not]; omega
      have hgn : ((k : Int) + 1 != 1 + (k : Int)) = false := by rw [bne_eq_false_iff_eq]; omega
      have hgb : ((k : Int) + 1 == 1 + (k : Int)) = true := by rw [beq_iff_eq]; omega
      have hr8 := HRm.out
      have HShw := Lib.hid (show ∀ s ∈ Cm.pwTo j (k + 1), s.length ≤ 9223372036854775807 from fun s hs => by have := HSh.out s hs; omega)
      obtain ⟨a8, c8, rfl, hwd8⟩ := hr8.words HShw.out
      have hky := keys_c a8 c8 _ wr hwd8
      rw [HFin.out] at hky
      have HKy := Lib.hid hky
      have HR8 := Lib.hid hr8
      clear HRm hr8 hwd8 hky
      generalize (Cm.pwTo j (k + 1)).length = lw at *
      have hkl : (Cm.kdTo (k + 1)).length = k + 1 := by simp [Cm.kdTo]
      have hkg : ∀ i, i < k + 1 → (Cm.kdTo (k + 1)).getD i [] = Cm.kd i := fun i hi => by rw [Cm.getD_eq (by rw [hkl]; exact hi)]; simp [Cm.kdTo]
      have HKL := Lib.hid hkl
      have HKG := Lib.hid hkg
      clear hkl hkg
      generalize Cm.kdTo (k + 1) = ks at *
      go_wp2_with (go_at_call 14; refine HKy.out.mono ?_; rintro e w9 ⟨a9, c9, rfl, hwd9, hb9⟩; rw [HKL.out]; have HB9 := Lib.hid hb9; have HW9 := Lib.hid hwd9; clear hb9 hwd9)
      go_loopw [6, 15] (fun r i wr => ∃ m : Nat, m ≤ k + 1 ∧ r = .bool false ∧ i = .int .i64 m ∧ Hid (Below w9.heap.size w9 wr)) (fun _ i _ => k + 1 - (intOf i).toNat)
      case atStart => exact ⟨0, by omega, rfl, rfl, Lib.hid (Below.refl _ _)⟩
      case round =>
        obtain ⟨m, hm, rfl, rfl, HBm⟩ := hrel
        by_cases hlt : m < k + 1
        · have hltI : (m : Int) < 1 + (k : Int) := by omega
          have hltI2 : (m : Int) < ((k + 1 : Nat) : Int) := by omega
          have hltI3 : (m : Int) < (k : Int) + 1 := by omega
          have hmI : (0 : Int) ≤ (m : Int) := by omega
          have hmT : ((m : Int)).toNat = m := by omega
          obtain ⟨b9, o9, rfl, hlt9, hc9⟩ := HW9.out.get (by rw [HKL.out]; omega)
          have q0 := hc9 m (by rw [HKL.out]; exact hlt)
          rw [HKG.out m hlt] at q0
          have q1 := (HBm.out.cell (p := ⟨b9, o9 + m, none⟩) hlt9).trans q0
          have hblt : b9 < wr.heap.size := Nat.lt_of_lt_of_le hlt9 HBm.out.size
          have hdig := fun W => digits_c m W (by omega)
          have hcat := str_two 107 (Cm.dg m)
          have hkl := @Cm.kd_len m
          have hkm : Cm.kd m = 107 :: Cm.dg m := rfl
          rw [← hkm] at hcat
          have hdl : (Cm.dg m).length ≤ 3 := by rw [hkm] at hkl; simp at hkl; omega
          have hadd : ∀ W, (Op.stringOp .add ⟨#[107]⟩ ⟨(Cm.dg m).toArray⟩).run Try.prog W = .ok (.string ⟨(Cm.kd m).toArray⟩) W := fun W => (run_string_add_sum _ _ _ (by simp [ByteArray.size]; omega)).trans (by rw [hcat])
          have HD := Lib.hid hdig
          clear hdig hkm hc9 q0 hcat
          generalize Cm.kd m = km at *
          generalize Cm.dg m = dm at *
          go_wp2
          go_region_held3 (fun w' => w'.cell? ⟨b9, o9 + m, none⟩ = some (.string ⟨km.toArray⟩))
            (first | go_keep | exact (hb12.cell (p := ⟨b9, o9 + m, none⟩) hblt).trans q1)
            ((go_at_call 18; refine (HD.out _).mono ?_; rintro e w12 ⟨rfl, hb12⟩))
          have HB12 := Lib.hid (HBm.out.trans ((((Below.refl wr.heap.size wr).drew).trans hb12).mono HBm.out.size))
          clear hb12
          go_wp2
          go_roundw
          case rel => exact ⟨m + 1, by omega, rfl, by go_num, HB12⟩
          case measure => simp [intOf]; omega
        · obtain rfl : m = k + 1 := by omega
          have hge2 : 1 + (k : Int) ≤ ((k + 1 : Nat) : Int) := by omega
          have HBm' := HBm
          clear HBm
          go_wp2_with (go_at_call 8; refine (awake_any _).mono ?_; rintro e w11 ⟨rfl, hb11⟩; have HB11 := Lib.hid hb11; clear hb11)
          go_ret
          exact ⟨rfl, (HR8.out.2.trans (HB9.out.mono HR8.out.2.size)).trans ((HBm'.out.trans (HB11.out.mono HBm'.out.size)).mono (Nat.le_trans HR8.out.2.size HB9.out.size))⟩

set_option maxRecDepth 100000 in
set_option maxHeartbeats 4000000 in
theorem cmdPairs_cn (n which : Int) (w : World) (hn : 0 ≤ n ∧ n ≤ 255) (hw : 0 ≤ which ∧ which ≤ 255) (k j : Nat) (hk : n % 20 = (k : Int)) (hk2 : k < 20) (hj : which % 7 = (j : Int)) (hj2 : j < 7) (hjc : 2 ≤ j ∧ j ≠ 5) :
    Calls Try.prog 6 #[.int .u8 n, .int .u8 which, .bool false] w fun e w' => e = .returned (.bool true) ∧ Below w.heap.size w w' := by
  obtain ⟨i0, hi, hz0, hz1, hz2⟩ := info_parts info9
  obtain ⟨n1, n2⟩ := hn
  obtain ⟨w1, w2⟩ := hw
  have hjn : (which % 7).toNat = j := by omega
  have hc := nm7_cell w j hj2
  have hq := Cm.hset7 hj2
  have hq2 : (Cm.nm7.getD j [] == [72, 83, 69, 84]) = false := by rw [hq]; simp; omega
  have hb1 : 2 ≤ which % 7 := by omega
  have hb2 : (which % 7 == 5) = false := by rw [beq_eq_false_iff_ne]; omega
  have hpr : Cm.pr7 j = false := by unfold Cm.pr7; simp; omega
  have hst : ∀ m, Cm.pwTo j (m + 1) = Cm.pwTo j m ++ [Cm.kd m] := by intro m; rw [Cm.pwTo, hpr]; rfl
  have h00 : Cm.pwTo j 0 = Cm.nm7.getD j [] :: [] := by unfold Cm.pwTo Cm.pw0; rw [if_neg (by omega)]
  have hfin := Cm.pairs_keys hj2 hk2 (by omega)
  have HFin := Lib.hid hfin
  have HST := Lib.hid hst
  have H00 := Lib.hid h00
  have HKk := Lib.hid hk
  have HL := Lib.hid (Cm.pwTo_len j)
  have HSh := Lib.hid (Cm.pwTo_short j (k + 1))
  have hs0 : (which % 7) < 7 := by omega
  have hs1 : 0 ≤ which % 7 := by omega
  have hns := Cm.nm7_short j
  clear hq hk hfin hst h00 hpr hj hjc
  generalize Cm.nm7.getD j [] = nm at *
  go_enter Try.func6, Try.ntmps6
  go_upto_region 5 with (fail)
  obtain ⟨wb, hwb⟩ : ∃ wb, w.alloc (.cells #[.string ⟨#[77, 83, 69, 84]⟩, .string ⟨#[77, 83, 69, 84, 78, 88]⟩, .string ⟨#[68, 69, 76]⟩, .string ⟨#[77, 71, 69, 84]⟩, .string ⟨#[69, 88, 73, 83, 84, 83]⟩, .string ⟨#[72, 83, 69, 84]⟩, .string ⟨#[83, 73, 78, 84, 69, 82]⟩] 9) = wb := ⟨_, rfl⟩
  have hbb : Below w.heap.size w wb := by rw [← hwb]; exact (Below.refl _ w).alloc (Nat.le_refl _) _
  have hsz : wb.heap.size = w.heap.size + 1 := by rw [← hwb]; simp
  have hr0 := RowW.one hbb nm
  rw [hsz] at hr0
  rw [hwb, HKk.out]
  clear hwb hsz hc
  obtain ⟨wd, hwd⟩ : ∃ wd, wb.alloc (.cells #[.string ⟨nm.toArray⟩] 9) = wd := ⟨_, rfl⟩
  rw [hwd] at hr0 ⊢
  have hR : RowW w (.slice (some ⟨w.heap.size + 1, 0, none⟩) 1 1) (Cm.pwTo j 0) wd := by rw [H00.out]; exact hr0
  have HR := Lib.hid hR
  clear hwd hbb hr0 hR
  go_wp2
  go_loopw [10, 11] (fun v i wr => ∃ (m : Nat) (sv : Value), m ≤ k + 1 ∧ i = .int .i64 m ∧ sv = v ∧ Hid (RowW w sv (Cm.pwTo j m) wr)) (fun _ i _ => k + 1 - (intOf i).toNat)
  case atStart => exact ⟨0, _, by omega, rfl, rfl, HR⟩
  case round =>
    obtain ⟨m, sv, hm, rfl, rfl, HRm⟩ := hrel
    have hlm := HL.out m
    have hszr := HRm.out.2.size
    by_cases hlt : m < k + 1
    · have hltI : (m : Int) < 1 + (k : Int) := by omega
      have hdig := fun W => digits_c m W (by omega)
      have hcat := str_two 107 (Cm.dg m)
      have hkl := @Cm.kd_len m
      have hkm : Cm.kd m = 107 :: Cm.dg m := rfl
      rw [← hkm] at hcat
      have hdl : (Cm.dg m).length ≤ 3 := by rw [hkm] at hkl; simp at hkl; omega
      have hst1 := HST.out m
      have HS1 := Lib.hid hst1
      have HD := Lib.hid hdig
      clear hst1 hdig hkm
      generalize Cm.kd m = km at *
      generalize Cm.dg m = dm at *
      go_wp2_with (first | (go_at_call 18; refine (HD.out _).mono ?_; rintro e w5 ⟨rfl, hb5⟩; have hr5 := HRm.out.later hb5; have hsz5 := hr5.2.size; clear hb5) | (at_builtin; refine wpList_append_own _ rfl (.tmp 45) (.tmp 49) 22 rfl w.heap.size 9 i0 (.string ⟨#[]⟩) 1 16 Try.underlying22 hi hz0 hz1 hz2 rfl (by decide) _ _ _ rfl (hr5.1.alloc _) ⟨w5.heap.size, 0, none⟩ 1 1 [.string ⟨km.toArray⟩] rfl rfl ?b1 ?b2 ?b3 ?b4 ?b5 ?_))
      case b1 => exact one_news _ _ rfl _ _
      case b2 => intro u hu; simp at hu; subst hu; rfl
      case b3 => unfold maxLen; omega
      case b4 => omega
      case b5 => simp; omega
      intro v6 w6 hown6 hgrow6 _
      have hr6 := hr5.append hown6 hgrow6
      have hl6 : (Cm.pwTo j m ++ [km]).length = (Cm.pwTo j m).length + 1 := by simp
      clear hown6 hgrow6 hr5 hcat
      have HR7 : Hid (RowW w v6 (Cm.pwTo j (m + 1)) w6) := Lib.hid (by rw [HS1.out]; exact hr6)
      clear hr6 hl6
      go_wp2
      go_roundw
      case rel => exact ⟨m + 1, _, by omega, by go_num, rfl, HR7⟩
      case measure => simp [intOf]; omega
    · obtain rfl : m = k + 1 := by omega
      have hge : 1 + (k : Int) ≤ ((k + 1 : Nat) : Int) := by omega
      have hgd : decide ((k : Int) + 1 < 1 + (k : Int)) = false := by rw [decide_eq_false_iff_not]; omega
      have hgn : ((k : Int) + 1 != 1 + (k : Int)) = false := by rw [bne_eq_false_iff_eq]; omega
      have hgb : ((k : Int) + 1 == 1 + (k : Int)) = true := by rw [beq_iff_eq]; omega
      have hr8 := HRm.out
      have HShw := Lib.hid (show ∀ s ∈ Cm.pwTo j (k + 1), s.length ≤ 9223372036854775807 from fun s hs => by have := HSh.out s hs; omega)
      obtain ⟨a8, c8, rfl, hwd8⟩ := hr8.words HShw.out
      have hky := keys_c a8 c8 _ wr hwd8
      rw [HFin.out] at hky
      have HKy := Lib.hid hky
      have HR8 := Lib.hid hr8
      clear HRm hr8 hwd8 hky
      generalize (Cm.pwTo j (k + 1)).length = lw at *
      have hkl : (Cm.kdTo (k + 1)).length = k + 1 := by simp [Cm.kdTo]
      have hkg : ∀ i, i < k + 1 → (Cm.kdTo (k + 1)).getD i [] = Cm.kd i := fun i hi => by rw [Cm.getD_eq (by rw [hkl]; exact hi)]; simp [Cm.kdTo]
      have HKL := Lib.hid hkl
      have HKG := Lib.hid hkg
      clear hkl hkg
      generalize Cm.kdTo (k + 1) = ks at *
      go_wp2_with (go_at_call 14; refine HKy.out.mono ?_; rintro e w9 ⟨a9, c9, rfl, hwd9, hb9⟩; rw [HKL.out]; have HB9 := Lib.hid hb9; have HW9 := Lib.hid hwd9; clear hb9 hwd9)
      go_loopw [6, 15] (fun r i wr => ∃ m : Nat, m ≤ k + 1 ∧ r = .bool false ∧ i = .int .i64 m ∧ Hid (Below w9.heap.size w9 wr)) (fun _ i _ => k + 1 - (intOf i).toNat)
      case atStart => exact ⟨0, by omega, rfl, rfl, Lib.hid (Below.refl _ _)⟩
      case round =>
        obtain ⟨m, hm, rfl, rfl, HBm⟩ := hrel
        by_cases hlt : m < k + 1
        · have hltI : (m : Int) < 1 + (k : Int) := by omega
          have hltI2 : (m : Int) < ((k + 1 : Nat) : Int) := by omega
          have hltI3 : (m : Int) < (k : Int) + 1 := by omega
          have hmI : (0 : Int) ≤ (m : Int) := by omega
          have hmT : ((m : Int)).toNat = m := by omega
          obtain ⟨b9, o9, rfl, hlt9, hc9⟩ := HW9.out.get (by rw [HKL.out]; omega)
          have q0 := hc9 m (by rw [HKL.out]; exact hlt)
          rw [HKG.out m hlt] at q0
          have q1 := (HBm.out.cell (p := ⟨b9, o9 + m, none⟩) hlt9).trans q0
          have hblt : b9 < wr.heap.size := Nat.lt_of_lt_of_le hlt9 HBm.out.size
          have hdig := fun W => digits_c m W (by omega)
          have hcat := str_two 107 (Cm.dg m)
          have hkl := @Cm.kd_len m
          have hkm : Cm.kd m = 107 :: Cm.dg m := rfl
          rw [← hkm] at hcat
          have hdl : (Cm.dg m).length ≤ 3 := by rw [hkm] at hkl; simp at hkl; omega
          have hadd : ∀ W, (Op.stringOp .add ⟨#[107]⟩ ⟨(Cm.dg m).toArray⟩).run Try.prog W = .ok (.string ⟨(Cm.kd m).toArray⟩) W := fun W => (run_string_add_sum _ _ _ (by simp [ByteArray.size]; omega)).trans (by rw [hcat])
          have HD := Lib.hid hdig
          clear hdig hkm hc9 q0 hcat
          generalize Cm.kd m = km at *
          generalize Cm.dg m = dm at *
          go_wp2
          go_region_held3 (fun w' => w'.cell? ⟨b9, o9 + m, none⟩ = some (.string ⟨km.toArray⟩))
            (first | go_keep | exact (hb12.cell (p := ⟨b9, o9 + m, none⟩) hblt).trans q1)
            ((go_at_call 18; refine (HD.out _).mono ?_; rintro e w12 ⟨rfl, hb12⟩))
          have HB12 := Lib.hid (HBm.out.trans ((((Below.refl wr.heap.size wr).drew).trans hb12).mono HBm.out.size))
          clear hb12
          go_wp2
          go_roundw
          case rel => exact ⟨m + 1, by omega, rfl, by go_num, HB12⟩
          case measure => simp [intOf]; omega
        · obtain rfl : m = k + 1 := by omega
          have hge2 : 1 + (k : Int) ≤ ((k + 1 : Nat) : Int) := by omega
          have HBm' := HBm
          clear HBm
          go_wp2_with (go_at_call 8; refine (awake_any _).mono ?_; rintro e w11 ⟨rfl, hb11⟩; have HB11 := Lib.hid hb11; clear hb11)
          go_ret
          exact ⟨rfl, (HR8.out.2.trans (HB9.out.mono HR8.out.2.size)).trans ((HBm'.out.trans (HB11.out.mono HBm'.out.size)).mono (Nat.le_trans HR8.out.2.size HB9.out.size))⟩

/-- CmdPairs returns true. -/
theorem cmdPairs_walk (n which : Int) (one : Bool) (w : World) (hn : 0 ≤ n ∧ n ≤ 255) (hw : 0 ≤ which ∧ which ≤ 255) :
    Calls Try.prog 6 #[.int .u8 n, .int .u8 which, .bool one] w fun e w' => e = .returned (.bool true) ∧ Below w.heap.size w w' := by
  obtain ⟨k, hk⟩ : ∃ k : Nat, n % 20 = (k : Int) := ⟨(n % 20).toNat, by omega⟩
  obtain ⟨j, hj⟩ : ∃ j : Nat, which % 7 = (j : Int) := ⟨(which % 7).toNat, by omega⟩
  by_cases h5 : j = 5
  · cases one with
    | true => exact cmdPairs_by n which w hn hw k j hk (by omega) hj (by omega) h5
    | false => exact cmdPairs_bn n which w hn hw k j hk (by omega) hj (by omega) h5
  · by_cases h2 : j < 2
    · cases one with
      | true => exact cmdPairs_ay n which w hn hw k j hk (by omega) hj (by omega) h2
      | false => exact cmdPairs_an n which w hn hw k j hk (by omega) hj (by omega) h2
    · cases one with
      | true => exact cmdPairs_cy n which w hn hw k j hk (by omega) hj (by omega) ⟨by omega, h5⟩
      | false => exact cmdPairs_cn n which w hn hw k j hk (by omega) hj (by omega) ⟨by omega, h5⟩

end Go.Proofs.Ytibipalncknddaa
