/- The contract of Make, kind 4. -/
import Derived.Test.YtihleddhjmejoaaMD18
import Derived.Deep.LoopGhost
import Derived.Deep.DeepCutAuto
import Derived.Deep.DeepFit
namespace Go.Proofs.Ytihleddhjmejoaa
open Go.RowKit Go.Shelf
set_option linter.unusedVariables false
set_option linter.unusedSimpArgs false

set_option maxRecDepth 100000 in
set_option maxHeartbeats 8000000 in
theorem make_4 (b0 off cap : Nat) (n : UInt8) (r : List UInt8) (x : Int) (w : World) (h0 : 0 ≤ x) (h1 : x ≤ 255) (hl : (n :: r).length ≤ 9223372036854775807) (hc : ∀ k, k < (n :: r).length → w.cell? ⟨b0, off + k, none⟩ = some (.int .u8 (((n :: r).getD k 0).toNat : Int))) (hk : (n.toNat : Int) % 4 = 3) (hr : r ≠ []) :
    Calls Try.prog 46 #[.slice (some ⟨b0, off, none⟩) (n :: r).length cap, .int .u8 x] w (MadeAt (Mk.mkK 4 (Mk.eOf x) (r.take 8)) w) := by
  have hw0 : w.cell? ⟨b0, off, none⟩ = some (.int .u8 (n.toNat : Int)) := by have := hc 0 (by simp); simpa using this
  have hlt0 : b0 < w.heap.size := World.block_lt_of_cell? w _ hw0
  obtain ⟨y0, hy0⟩ : ∃ y0, (n.toNat : Int) = y0 := ⟨_, rfl⟩
  have hyb := byte_bd n
  rw [hy0] at hw0 hk hyb
  obtain ⟨i1, i2⟩ := hyb
  have HC := Lib.hid hc
  obtain ⟨N, hN⟩ : ∃ N, (n :: r).length = N := ⟨_, rfl⟩
  have hNr : N = r.length + 1 := by rw [← hN]; rfl
  rw [hN] at hl
  have hN1 : (1 : Int) ≤ (N : Int) := by omega
  have hN0 : (0 : Int) < (N : Int) := by omega
  have hNI : (N : Int) ≤ 9223372036854775807 := by omega
  have hne0 : ((N : Int) == 0) = false := by rw [beq_eq_false_iff_ne]; omega
  rw [hN]
  have HN := Lib.hid hN
  obtain ⟨ee, hee⟩ : ∃ ee, Mk.eOf x = ee := ⟨_, rfl⟩
  rw [hee]
  have HEE := Lib.hid hee
  obtain ⟨im, him⟩ : ∃ im, Mk.mkK 4 ee (r.take 8) = im := ⟨_, rfl⟩
  rw [him]
  have HIM := Lib.hid him
  clear hee him
  have HNr := Lib.hid hNr
  have HY := Lib.hid hy0
  clear hc hN hy0 hNr
  obtain ⟨iS, hiS, hiS0, hiS1, hiS2⟩ := info_parts info9
  go_enter Try.func46, Try.ntmps46
  go_upto_if 21 with (fail)
  go_cut [] (fun wx => MkAt w 4 ee wx)
  case first =>
    by_cases h3 : x % 3 = 0
    · go_wp2_with fail
      go_meet
      case rel => rw [← HEE.out, show Mk.eOf x = x from if_pos h3]; exact mkAt_exp w 4 x
    · have h3b : (x % 3 == 0) = false := by rw [beq_eq_false_iff_ne]; exact h3
      go_wp2_with fail
      go_meet
      case rel => rw [← HEE.out, show Mk.eOf x = 0 from if_neg h3]; exact mkAt_new w 4
  case rest =>
    obtain ⟨hbx, hbr, hbw, hzw⟩ := hcut
    obtain ⟨wb, rfl⟩ : ∃ wb : World, wb = wc := ⟨_, rfl⟩
    have HBX := Lib.hid hbx
    have HBR := Lib.hid hbr
    have HBW := Lib.hid hbw
    have HZW := Lib.hid hzw
    have hlt1 : w.heap.size + 1 < wb.heap.size := by omega
    clear hbx hbr hbw hzw hk hw0
    go_wp2_with fail
    go_loopg [6] 8 (fun g p wr => ∃ q : Nat, q + g = 8 ∧ q ≤ r.length ∧ p = .int .i64 ((q : Int) + 1) ∧ Hid (MkL wb (w.heap.size + 1) 4 ee (Mk.aF (r.take q)) wr))
    case atStart => exact ⟨0, rfl, Nat.zero_le _, rfl, Lib.hid (by exact ⟨none, 0, HBX.out, World.ownsRow_nil _ _ _ _, Keeps.refl _ _, fun _ => ⟨rfl, rfl⟩⟩)⟩
    case round =>
      obtain ⟨q, hq8, hq, rfl, HQ⟩ := hrel
      have HBWr := Lib.hid (MkL.below HBW.out HZW.out HQ.out)
      have hNr := HNr.out
      by_cases hgo : q < r.length ∧ q < 8
      · obtain ⟨hlt, hlt8⟩ := hgo
        obtain ⟨b, hbq⟩ : ∃ b, r.getD q 0 = b := ⟨_, rfl⟩
        obtain ⟨y, hy⟩ : ∃ y, (b.toNat : Int) = y := ⟨_, rfl⟩
        have hyb := byte_bd b
        rw [hy] at hyb
        obtain ⟨y1, y2⟩ := hyb
        have yc : wr.cell? ⟨b0, off + (q + 1), none⟩ = some (.int .u8 y) := by
          have h1 := HC.out (q + 1) (by rw [HN.out]; omega)
          rw [List.getD_cons_succ, hbq, hy] at h1
          exact (HBWr.out.cell (p := ⟨b0, off + (q + 1), none⟩) (World.block_lt_of_cell? w _ h1)).trans h1
        have hnx := take_snoc8 hlt
        rw [hbq] at hnx
        have HNX := Lib.hid hnx
        have HSO := Lib.hid (sOf_str b y hy)
        have HVO := Lib.hid (vOf_str b y hy)
        have HD := Lib.hid (fun W => digits_any (y % 3) W (by omega) (by omega))
        have k0 : (0 : Int) ≤ (q : Int) + 1 := by omega
        have k1 : (q : Int) + 1 < (N : Int) := by omega
        have k2 : (q : Int) + 1 < 9 := by omega
        have kT : ((q : Int) + 1).toNat = q + 1 := by omega
        clear hnx hbq hy hNr
        go_upto_region 9 with (fail)
        go_cut [7] (fun v wx => v = .string ⟨(Mk.sOf b).toArray⟩ ∧ Hid (Below wr.heap.size wr wx))
        case first =>
          have hT5 : y.tmod 5 = y % 5 := Int.tmod_eq_emod_of_nonneg y1
          have hT3 : y.tmod 3 = y % 3 := Int.tmod_eq_emod_of_nonneg y1
          have hU8 : IntKind.u8.wrap (97 + y % 5) = 97 + y % 5 := IntWalk.u8_in _ (by omega)
          have hUy : IntKind.u8.wrap (y % 5) = y % 5 := IntWalk.u8_in _ (by omega)
          have hI1 : IntKind.i64.wrap y = y := IntWalk.i64_in _ (by omega)
          have hI3 : IntKind.i64.wrap (y % 3) = y % 3 := IntWalk.i64_in _ (by omega)
          have hdl : 1 + (Dig.dec (y % 3)).length ≤ 9223372036854775807 := by have := dec3_len y; omega
          have HS0 : wr.drew.cell? ⟨b0, off + (q + 1), none⟩ = some (.int .u8 y) := (World.cell?_drew _ _).trans yc
          refine wp_region_L (S := (fun W => W.cell? ⟨b0, off + (q + 1), none⟩ = some (.int .u8 y))) (f := 16) (by kernel_rfl) ?_
          refine wpAnyL_take (i := 0) (some 35) (v := .slice (some ⟨b0, off, none⟩) N cap) rfl rfl (by kernel_rfl) (by kernel_rfl) (by kernel_rfl) (by kernel_rfl) (fun _ _ _ h => h) (by rfl) (fun W hS => ?_) HS0 ?_
          · rcases hS with m0
            go_simp
          try simp only [Act.put, List.setIfInBounds_toArray, List.set_cons_zero, List.set_cons_succ]
          refine wpAnyL_take (i := 1) (some 36) (v := .int .i64 ((q : Int) + 1)) rfl rfl (by kernel_rfl) (by kernel_rfl) (by kernel_rfl) (by kernel_rfl) (fun _ _ _ h => h) (by rfl) (fun W hS => ?_) HS0 ?_
          · rcases hS with m0
            go_simp
          try simp only [Act.put, List.setIfInBounds_toArray, List.set_cons_zero, List.set_cons_succ]
          refine wpAnyL_take (i := 2) (some 37) (v := .pointer (some ⟨b0, off + (q + 1), none⟩)) rfl rfl (by kernel_rfl) (by kernel_rfl) (by kernel_rfl) (by kernel_rfl) (fun _ _ _ h => h) (by rfl) (fun W hS => ?_) HS0 ?_
          · rcases hS with m0
            go_simp
          try simp only [Act.put, List.setIfInBounds_toArray, List.set_cons_zero, List.set_cons_succ]
          refine wpAnyL_take (i := 3) (some 38) (v := .int .u8 y) rfl rfl (by kernel_rfl) (by kernel_rfl) (by kernel_rfl) (by kernel_rfl) (fun _ _ _ h => h) (by rfl) (fun W hS => ?_) HS0 ?_
          · rcases hS with m0
            go_simp
          try simp only [Act.put, List.setIfInBounds_toArray, List.set_cons_zero, List.set_cons_succ]
          refine wpAnyL_take (i := 4) (some 39) (v := .int .u8 (y % 5)) rfl rfl (by kernel_rfl) (by kernel_rfl) (by kernel_rfl) (by kernel_rfl) (fun _ _ _ h => h) (by rfl) (fun W hS => ?_) HS0 ?_
          · rcases hS with m0
            go_simp
          try simp only [Act.put, List.setIfInBounds_toArray, List.set_cons_zero, List.set_cons_succ]
          refine wpAnyL_take (i := 5) (some 40) (v := .int .u8 (97 + y % 5)) rfl rfl (by kernel_rfl) (by kernel_rfl) (by kernel_rfl) (by kernel_rfl) (fun _ _ _ h => h) (by rfl) (fun W hS => ?_) HS0 ?_
          · rcases hS with m0
            go_simp
          try simp only [Act.put, List.setIfInBounds_toArray, List.set_cons_zero, List.set_cons_succ]
          refine wpAnyL_take (i := 8) (some 43) (v := .slice (some ⟨b0, off, none⟩) N cap) rfl rfl (by kernel_rfl) (by kernel_rfl) (by kernel_rfl) (by kernel_rfl) (fun _ _ _ h => h) (by rfl) (fun W hS => ?_) HS0 ?_
          · rcases hS with m0
            go_simp
          try simp only [Act.put, List.setIfInBounds_toArray, List.set_cons_zero, List.set_cons_succ]
          refine wpAnyL_take (i := 9) (some 44) (v := .int .i64 ((q : Int) + 1)) rfl rfl (by kernel_rfl) (by kernel_rfl) (by kernel_rfl) (by kernel_rfl) (fun _ _ _ h => h) (by rfl) (fun W hS => ?_) HS0 ?_
          · rcases hS with m0
            go_simp
          try simp only [Act.put, List.setIfInBounds_toArray, List.set_cons_zero, List.set_cons_succ]
          refine wpAnyL_take (i := 10) (some 45) (v := .pointer (some ⟨b0, off + (q + 1), none⟩)) rfl rfl (by kernel_rfl) (by kernel_rfl) (by kernel_rfl) (by kernel_rfl) (fun _ _ _ h => h) (by rfl) (fun W hS => ?_) HS0 ?_
          · rcases hS with m0
            go_simp
          try simp only [Act.put, List.setIfInBounds_toArray, List.set_cons_zero, List.set_cons_succ]
          refine wpAnyL_take (i := 11) (some 46) (v := .int .u8 y) rfl rfl (by kernel_rfl) (by kernel_rfl) (by kernel_rfl) (by kernel_rfl) (fun _ _ _ h => h) (by rfl) (fun W hS => ?_) HS0 ?_
          · rcases hS with m0
            go_simp
          try simp only [Act.put, List.setIfInBounds_toArray, List.set_cons_zero, List.set_cons_succ]
          refine wpAnyL_take (i := 12) (some 47) (v := .int .i64 y) rfl rfl (by kernel_rfl) (by kernel_rfl) (by kernel_rfl) (by kernel_rfl) (fun _ _ _ h => h) (by rfl) (fun W hS => ?_) HS0 ?_
          · rcases hS with m0
            go_simp
          try simp only [Act.put, List.setIfInBounds_toArray, List.set_cons_zero, List.set_cons_succ]
          refine wpAnyL_take (i := 13) (some 48) (v := .int .i64 (y % 3)) rfl rfl (by kernel_rfl) (by kernel_rfl) (by kernel_rfl) (by kernel_rfl) (fun _ _ _ h => h) (by rfl) (fun W hS => ?_) HS0 ?_
          · rcases hS with m0
            go_simp
          try simp only [Act.put, List.setIfInBounds_toArray, List.set_cons_zero, List.set_cons_succ]
          refine wpAnyL_two (i := 6) (j := 14) (by kernel_rfl) rfl rfl (by rfl) (by rfl) (fun K hK => ?_) (fun K hK => ?_)
          · skip
            refine oper_wp_valD (some 41) (v := .slice (some ⟨wr.heap.size, 0, none⟩) 1 1) (w' := (wr.alloc (.cells #[.int .u8 (97 + y % 5)] 5)).drew) rfl (by go_simp) ?_
            have HS1 := cell_next9 HS0 ((Below.refl _ wr.drew).alloc (Nat.le_refl _) (.cells #[.int .u8 (97 + y % 5)] 5))
            refine hK _ _ (fun _ => HS1) ?_
            clear hK K
            try simp only [Act.put, List.setIfInBounds_toArray, List.set_cons_zero, List.set_cons_succ]
            have HC1 : (wr.alloc (.cells #[.int .u8 (97 + y % 5)] 5)).drew.cell? ⟨wr.heap.size, 0, none⟩ = some (.int .u8 (97 + y % 5)) := new9 wr _
            refine wpAnyL_two (i := 7) (j := 14) (by kernel_rfl) rfl rfl (by rfl) (by rfl) (fun K hK => ?_) (fun K hK => ?_)
            · skip
              have hcv := conv_at (wr.alloc (.cells #[.int .u8 (97 + y % 5)] 5)).drew wr.heap.size (97 + y % 5) HC1
              refine oper_wp_valD (some 42) (v := .string ⟨#[UInt8.ofNat (97 + y % 5).toNat]⟩) (w' := (wr.alloc (.cells #[.int .u8 (97 + y % 5)] 5)).drew) rfl (by go_simp) ?_
              clear hcv
              refine hK _ _ (fun _ => HS1) ?_
              clear hK K
              try simp only [Act.put, List.setIfInBounds_toArray, List.set_cons_zero, List.set_cons_succ]
              refine wpAnyL_one (j := 14) (by kernel_rfl) rfl (by rfl) (fun K hK => ?_)
              go_simp
              with_reducible refine (HD.out _).mono ?_
              rintro e w1 ⟨rfl, hb⟩
              have HS2 := cell_next9 HS1 hb
              have HB1 := Lib.hid hb
              clear hb
              refine hK _ _ (fun _ => HS2) ?_
              clear hK K
              try simp only [Act.put, List.setIfInBounds_toArray, List.set_cons_zero, List.set_cons_succ]
              refine wpAnyL_take (i := 15) (some 50) (v := .string (⟨#[UInt8.ofNat (97 + y % 5).toNat]⟩ ++ ⟨(Dig.dec (y % 3)).toArray⟩)) rfl rfl (by kernel_rfl) (by kernel_rfl) (by kernel_rfl) (by kernel_rfl) (fun _ _ _ h => h) (by rfl) (fun W hS => ?_) HS2 ?_
              · rcases hS with m0
                go_simp
              try simp only [Act.put, List.setIfInBounds_toArray, List.set_cons_zero, List.set_cons_succ]
              refine wpAnyL_one (j := 16) (by kernel_rfl) rfl (by rfl) (fun K hK => ?_)
              refine oper_wp_valD (some 7) (v := .string (⟨#[UInt8.ofNat (97 + y % 5).toNat]⟩ ++ ⟨(Dig.dec (y % 3)).toArray⟩)) (w' := w1) rfl (by go_simp) ?_
              refine hK _ _ (fun h => (h rfl).elim) ?_
              clear hK K
              try simp only [Act.put, List.setIfInBounds_toArray, List.set_cons_zero, List.set_cons_succ]
              refine wpAnyL_done (by kernel_rfl) ?_ _
              go_wp2_with fail
              go_meet
              case rel => exact ⟨by rw [HSO.out], Lib.hid ((((Below.refl _ wr).alloc (Nat.le_refl _) (.cells #[.int .u8 (97 + y % 5)] 5)).drew).trans (HB1.out.mono (by simp)))⟩
            · skip
              go_simp
              with_reducible refine (HD.out _).mono ?_
              rintro e w1 ⟨rfl, hb⟩
              have HS2 := cell_next9 HS1 hb
              have HC2 := cell_next9 HC1 hb
              have HB1 := Lib.hid hb
              clear hb
              refine hK _ _ (fun _ => HS2) ?_
              clear hK K
              try simp only [Act.put, List.setIfInBounds_toArray, List.set_cons_zero, List.set_cons_succ]
              refine wpAnyL_one (j := 7) (by kernel_rfl) rfl (by rfl) (fun K hK => ?_)
              have hcv := conv_at w1 wr.heap.size (97 + y % 5) HC2
              refine oper_wp_valD (some 42) (v := .string ⟨#[UInt8.ofNat (97 + y % 5).toNat]⟩) (w' := w1) rfl (by go_simp) ?_
              clear hcv
              refine hK _ _ (fun _ => HS2) ?_
              clear hK K
              try simp only [Act.put, List.setIfInBounds_toArray, List.set_cons_zero, List.set_cons_succ]
              refine wpAnyL_take (i := 15) (some 50) (v := .string (⟨#[UInt8.ofNat (97 + y % 5).toNat]⟩ ++ ⟨(Dig.dec (y % 3)).toArray⟩)) rfl rfl (by kernel_rfl) (by kernel_rfl) (by kernel_rfl) (by kernel_rfl) (fun _ _ _ h => h) (by rfl) (fun W hS => ?_) HS2 ?_
              · rcases hS with m0
                go_simp
              try simp only [Act.put, List.setIfInBounds_toArray, List.set_cons_zero, List.set_cons_succ]
              refine wpAnyL_one (j := 16) (by kernel_rfl) rfl (by rfl) (fun K hK => ?_)
              refine oper_wp_valD (some 7) (v := .string (⟨#[UInt8.ofNat (97 + y % 5).toNat]⟩ ++ ⟨(Dig.dec (y % 3)).toArray⟩)) (w' := w1) rfl (by go_simp) ?_
              refine hK _ _ (fun h => (h rfl).elim) ?_
              clear hK K
              try simp only [Act.put, List.setIfInBounds_toArray, List.set_cons_zero, List.set_cons_succ]
              refine wpAnyL_done (by kernel_rfl) ?_ _
              go_wp2_with fail
              go_meet
              case rel => exact ⟨by rw [HSO.out], Lib.hid ((((Below.refl _ wr).alloc (Nat.le_refl _) (.cells #[.int .u8 (97 + y % 5)] 5)).drew).trans (HB1.out.mono (by simp)))⟩
          · skip
            go_simp
            with_reducible refine (HD.out _).mono ?_
            rintro e w1 ⟨rfl, hb⟩
            have HS1 := cell_next9 HS0 hb
            have HB1 := Lib.hid hb
            clear hb
            refine hK _ _ (fun _ => HS1) ?_
            clear hK K
            try simp only [Act.put, List.setIfInBounds_toArray, List.set_cons_zero, List.set_cons_succ]
            refine wpAnyL_one (j := 6) (by kernel_rfl) rfl (by rfl) (fun K hK => ?_)
            refine oper_wp_valD (some 41) (v := .slice (some ⟨w1.heap.size, 0, none⟩) 1 1) (w' := (w1.alloc (.cells #[.int .u8 (97 + y % 5)] 5))) rfl (by go_simp) ?_
            have HS2 := cell_next9 HS1 ((Below.refl _ w1).alloc (Nat.le_refl _) (.cells #[.int .u8 (97 + y % 5)] 5))
            refine hK _ _ (fun _ => HS2) ?_
            clear hK K
            try simp only [Act.put, List.setIfInBounds_toArray, List.set_cons_zero, List.set_cons_succ]
            have HC2 : (w1.alloc (.cells #[.int .u8 (97 + y % 5)] 5)).cell? ⟨w1.heap.size, 0, none⟩ = some (.int .u8 (97 + y % 5)) := new9b w1 _
            refine wpAnyL_one (j := 7) (by kernel_rfl) rfl (by rfl) (fun K hK => ?_)
            have hcv := conv_at (w1.alloc (.cells #[.int .u8 (97 + y % 5)] 5)) w1.heap.size (97 + y % 5) HC2
            refine oper_wp_valD (some 42) (v := .string ⟨#[UInt8.ofNat (97 + y % 5).toNat]⟩) (w' := (w1.alloc (.cells #[.int .u8 (97 + y % 5)] 5))) rfl (by go_simp) ?_
            clear hcv
            refine hK _ _ (fun _ => HS2) ?_
            clear hK K
            try simp only [Act.put, List.setIfInBounds_toArray, List.set_cons_zero, List.set_cons_succ]
            refine wpAnyL_take (i := 15) (some 50) (v := .string (⟨#[UInt8.ofNat (97 + y % 5).toNat]⟩ ++ ⟨(Dig.dec (y % 3)).toArray⟩)) rfl rfl (by kernel_rfl) (by kernel_rfl) (by kernel_rfl) (by kernel_rfl) (fun _ _ _ h => h) (by rfl) (fun W hS => ?_) HS2 ?_
            · rcases hS with m0
              go_simp
            try simp only [Act.put, List.setIfInBounds_toArray, List.set_cons_zero, List.set_cons_succ]
            refine wpAnyL_one (j := 16) (by kernel_rfl) rfl (by rfl) (fun K hK => ?_)
            refine oper_wp_valD (some 7) (v := .string (⟨#[UInt8.ofNat (97 + y % 5).toNat]⟩ ++ ⟨(Dig.dec (y % 3)).toArray⟩)) (w' := (w1.alloc (.cells #[.int .u8 (97 + y % 5)] 5))) rfl (by go_simp) ?_
            refine hK _ _ (fun h => (h rfl).elim) ?_
            clear hK K
            try simp only [Act.put, List.setIfInBounds_toArray, List.set_cons_zero, List.set_cons_succ]
            refine wpAnyL_done (by kernel_rfl) ?_ _
            go_wp2_with fail
            go_meet
            case rel => exact ⟨by rw [HSO.out], Lib.hid ((((Below.refl _ wr).drew).trans HB1.out).alloc HB1.out.size _)⟩
        case rest =>
          obtain ⟨rfl, HBX9⟩ := hcut
          obtain ⟨a, c, hqx, hqo, hqk, hq0⟩ := HQ.out
          have hok := Mk.aF_ok (r.take q)
          obtain ⟨l, hlq⟩ : ∃ l, Mk.aF (r.take q) = l := ⟨_, rfl⟩
          have hnl : Mk.aF (r.take q ++ [b]) = Mk.sadd l (Mk.sOf b) := by rw [Mk.aF_snoc, hlq]
          rw [hlq] at hqx hqo hq0 hok
          have hx9 := ItBox.later hqx HBX9.out
          obtain ⟨e0, e1, e2, e3, e4⟩ := ItBox.at hx9
          have HX9 := Lib.hid hx9
          have HK := Lib.hid hqk
          have HNL := Lib.hid hnl
          have HO := Lib.hid hqo
          have hzr : wb.heap.size ≤ wr.heap.size := hqk.size
          have hz9 := HBX9.out.size
          have hs2 := (Mk.small_at b).1
          have hll : l.length ≤ 1000 := by have := hok.2.1; rw [List.length_take] at this; omega
          have HSA : Hid (∀ W, Below wr.heap.size wr W → Calls Try.prog 62 #[.slice a l.length c, .string ⟨(Mk.sOf b).toArray⟩] W fun e W2 => ∃ u, e = .returned u ∧ RowW W u (Mk.sadd l (Mk.sOf b)) W2) := Lib.hid (fun W h => by
            by_cases hl0 : l = []
            · obtain ⟨ha, hc0⟩ := hq0 hl0
              subst hl0 ha hc0
              exact sadd_nil (Mk.sOf b) W (by omega)
            · obtain ⟨a1, c1, e1, hW, hg⟩ := wds_of_row hqo (fun p hp => by have := hok.2.2.2 p hp; omega)
              injection e1 with e1 _ e3
              subst e1 e3
              obtain ⟨g, rfl, -⟩ := hg hl0
              exact sadd_any g c l (Mk.sOf b) W (hW.later h) (List.length_pos_iff.2 hl0) hll (by omega))
          have HHN := Lib.hid (show ∀ t ∈ Mk.sadd l (Mk.sOf b), t.length ≤ 9223372036854775807 from fun t ht => by
            rcases (Mk.sadd_up l (Mk.sOf b) hok.1).2.1 t ht with rfl | h
            · omega
            · have := hok.2.2.2 t h; omega)
          have HNE := Lib.hid (show Mk.sadd l (Mk.sOf b) ≠ [] from fun h => by have := Mk.sadd_ne l (Mk.sOf b); rw [h] at this; simp at this)
          clear hx9 hqx hqo hqk hnl HQ hlq hq0 hok hs2
          go_wp2_with fail
          refine (HSA.out _ HBX9.out).mono ?_
          rintro e w2 ⟨u, rfl, hu⟩
          obtain ⟨a2, c2, hue, hF2, -⟩ := wds_of_row hu.1 HHN.out
          subst hue
          have hb2 := HBX9.out.trans (hu.2.mono HBX9.out.size)
          have hx2 := ItBox.later HX9.out hu.2
          obtain ⟨g0, g1, g2, g3, g4⟩ := ItBox.at hx2
          obtain ⟨f0, f1, f2, f3, f4⟩ := ItBox.free hx2
          have HX2 := Lib.hid hx2
          have HB2 := Lib.hid hb2
          have HU := Lib.hid hu
          clear hx2 hb2 hu hF2 e0 e1 e2 e3 e4
          go_wp2_with fail
          go_roundg (7 - q)
          case measure => omega
          case rel => exact ⟨q + 1, by omega, by omega, by go_num, Lib.hid (by rw [HNX.out]; exact (by rw [HNL.out]; exact mkL_step HK.out (Keeps.of_below HB2.out fun j hj h => by omega) HX2.out (by omega) (by omega) HU.out.1 HNE.out))⟩
      · skip
        have htk := take_all8 hq hq8 hgo
        rw [htk] at HQ
        have HTK := Lib.hid htk
        obtain ⟨t, ht⟩ : ∃ t, r.take 8 = t := ⟨_, rfl⟩
        rw [ht] at HQ
        have HT := Lib.hid ht
        clear htk ht
        obtain ⟨a, c, hx, hqo, hqk, -⟩ := HQ.out
        have hok := Mk.aF_ok t
        obtain ⟨a1, c1, e1, hF, -⟩ := wds_of_row hqo (fun p hp => by have := hok.2.2.2 p hp; omega)
        injection e1 with e1 _ e3
        subst e1 e3
        have hbe : ItBox wr w.heap.size 0 [] none 0 0 none 0 0 0 := hqk.heap HBR.out (by omega)
        obtain ⟨c0, c1, c2, c3, c4⟩ := ItBox.at hx
        obtain ⟨z0, z1, z2, z3, z4⟩ := ItBox.at hbe
        obtain ⟨f0, f1, f2, f3, f4⟩ := ItBox.free hbe
        have HBE := Lib.hid (hbe.store 4 [] none 0 0 a (Mk.aF t).length c ee)
        have HF := Lib.hid hF
        have HFB := Lib.hid (owns_far hqo (show w.heap.size < wb.heap.size by omega))
        have HFN := Lib.hid (owns_none hqo)
        have hr2 : 2 ≤ N := by have := HNr.out; have : r.length ≠ 0 := fun h => hr (List.eq_nil_of_length_eq_zero h); omega
        have HZ := Lib.hid hqk.size
        clear HQ hx hbe hqk hqo hF hok
        by_cases hlt9 : q < r.length
        · have k0 : (0 : Int) ≤ (q : Int) + 1 := by omega
          have k1 : (q : Int) + 1 < (N : Int) := by omega
          have k2 : (9 : Int) ≤ (q : Int) + 1 := by omega
          have hne1 : ((N : Int) == 1) = false := by rw [beq_eq_false_iff_ne]; omega
          clear hgo hq8 hlt9 hNr hq
          go_wp2_with fail
          obtain ⟨we, hwe⟩ : ∃ we, stIt wr w.heap.size 4 [] none 0 0 a (Mk.aF t).length c ee = we := ⟨_, rfl⟩
          have hbz : ItBox we w.heap.size 4 [] none 0 0 a (Mk.aF t).length c ee := hwe ▸ HBE.out
          have hbl : Below w.heap.size w we := by rw [← hwe]; exact (Keeps.stIt (S := fun j => j < w.heap.size) (Keeps.of_below HBWr.out fun j _ h => h) (.inl (Nat.le_refl _)) 4 [] none 0 0 a (Mk.aF t).length c ee).below (Nat.le_refl _) fun j hj => hj
          show bodyPost _ _ _ .ret _ (stIt wr w.heap.size 4 [] none 0 0 a (Mk.aF t).length c ee)
          rw [hwe]
          exact bodyPost_ret (results_cell rfl rfl (loadVarI hbz)) rfl ⟨none, 0, a, c, by rw [← HIM.out, HT.out]; rfl, by rw [← HIM.out]; exact fds_nil _, by rw [← HIM.out, HT.out]; exact HF.out.keep (by rw [← hwe]; simp [stIt]) (fun g o e _ => by rw [← hwe]; exact stIt_far (Nat.ne_of_gt (HFB.out g o e)) _ _ _ _ _ _ _ _ _), hbl, ⟨fun _ _ e => (by cases e), fun g o e => Nat.le_of_lt (HFB.out g o e), fun _ => rfl, HFN.out⟩⟩
        · have k0 : (0 : Int) ≤ (q : Int) + 1 := by omega
          have k1 : (N : Int) ≤ (q : Int) + 1 := by omega
          have hne1 : ((N : Int) == 1) = false := by rw [beq_eq_false_iff_ne]; omega
          clear hgo hq8 hlt9 hNr hq
          go_wp2_with fail
          obtain ⟨we, hwe⟩ : ∃ we, stIt wr w.heap.size 4 [] none 0 0 a (Mk.aF t).length c ee = we := ⟨_, rfl⟩
          have hbz : ItBox we w.heap.size 4 [] none 0 0 a (Mk.aF t).length c ee := hwe ▸ HBE.out
          have hbl : Below w.heap.size w we := by rw [← hwe]; exact (Keeps.stIt (S := fun j => j < w.heap.size) (Keeps.of_below HBWr.out fun j _ h => h) (.inl (Nat.le_refl _)) 4 [] none 0 0 a (Mk.aF t).length c ee).below (Nat.le_refl _) fun j hj => hj
          show bodyPost _ _ _ .ret _ (stIt wr w.heap.size 4 [] none 0 0 a (Mk.aF t).length c ee)
          rw [hwe]
          exact bodyPost_ret (results_cell rfl rfl (loadVarI hbz)) rfl ⟨none, 0, a, c, by rw [← HIM.out, HT.out]; rfl, by rw [← HIM.out]; exact fds_nil _, by rw [← HIM.out, HT.out]; exact HF.out.keep (by rw [← hwe]; simp [stIt]) (fun g o e _ => by rw [← hwe]; exact stIt_far (Nat.ne_of_gt (HFB.out g o e)) _ _ _ _ _ _ _ _ _), hbl, ⟨fun _ _ e => (by cases e), fun g o e => Nat.le_of_lt (HFB.out g o e), fun _ => rfl, HFN.out⟩⟩
end Go.Proofs.Ytihleddhjmejoaa
