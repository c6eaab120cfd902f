/- The contract of the law's Key: a key by a number (11). -/
import Derived.Test.YtahmddopbmjepaaDoorRD35
import Derived.Test.YtahmddopbmjepaaDoorRD15
namespace Go.Proofs.YtahmddopbmjepaaDoor
open Go.RowKit Go.Shelf
attribute [local go_sem] Oper.semAt_some
set_option linter.unusedVariables false
set_option linter.unusedSimpArgs false

/-- the key of a number. -/
def keyT (y : Int) : List UInt8 := 123 :: UInt8.ofNat (97 + y % 4).toNat :: 125 :: Dig.dec (y / 4 % 5)
theorem keyT_str (y : Int) : (⟨#[123]⟩ ++ ⟨#[UInt8.ofNat (97 + y % 4).toNat]⟩ ++ ⟨#[125]⟩ ++ ⟨(Dig.dec (y / 4 % 5)).toArray⟩ : ByteArray) = ⟨(keyT y).toArray⟩ := by
  apply ByteArray.ext
  simp [keyT]
theorem dec5_len (y : Int) : (Dig.dec (y / 4 % 5)).length ≤ 1 := by
  have h : y / 4 % 5 = 0 ∨ y / 4 % 5 = 1 ∨ y / 4 % 5 = 2 ∨ y / 4 % 5 = 3 ∨ y / 4 % 5 = 4 := by omega
  rcases h with h | h | h | h | h <;> rw [h] <;> decide +kernel
theorem keyT_len (y : Int) : (keyT y).length ≤ 4 := by
  have := dec5_len y
  simp only [keyT, List.length_cons]
  omega

set_option maxRecDepth 100000 in
set_option maxHeartbeats 8000000 in
theorem key_any (y : Int) (w : World) (y0 : 0 ≤ y) (y1 : y ≤ 255) : Calls Tryd.prog 19 #[.int .u8 y] w fun e W => e = .returned (.string ⟨(keyT y).toArray⟩) ∧ Below w.heap.size w W := by
  have HSO := Lib.hid (keyT_str y)
  have HD := Lib.hid (fun W => digits_any (y / 4 % 5) W (by omega) (by omega))
  have hT4 : y.tmod 4 = y % 4 := Int.tmod_eq_emod_of_nonneg y0
  have hD4 : y.tdiv 4 = y / 4 := Int.tdiv_eq_ediv_of_nonneg y0
  have hT5 : (y / 4).tmod 5 = y / 4 % 5 := Int.tmod_eq_emod_of_nonneg (by omega)
  have hU4 : IntKind.u8.wrap (y % 4) = y % 4 := IntWalk.u8_in _ (by omega)
  have hU8 : IntKind.u8.wrap (97 + y % 4) = 97 + y % 4 := IntWalk.u8_in _ (by omega)
  have hI1 : IntKind.i64.wrap y = y := IntWalk.i64_in _ (by omega)
  have hI4 : IntKind.i64.wrap (y / 4) = y / 4 := IntWalk.i64_in _ (by omega)
  have hI5 : IntKind.i64.wrap (y / 4 % 5) = y / 4 % 5 := IntWalk.i64_in _ (by omega)
  have hdl : 1 + 1 + 1 + (Dig.dec (y / 4 % 5)).length ≤ 9223372036854775807 := by have := dec5_len y; omega
  have hdl3 : 3 + (Dig.dec (y / 4 % 5)).length ≤ 9223372036854775807 := by have := dec5_len y; omega
  go_enter Tryd.func19, Tryd.ntmps19
  go_upto_region 1 with (fail)
  have HS0 : Below w.heap.size w w.drew := (Below.refl _ w).drew
  refine wp_region_L (S := fun W => Below w.heap.size w W) (f := 14) (by kernel_rfl) ?_
  refine wpAnyL_take (i := 0) (some 3) (v := .int .u8 y) rfl rfl (by kernel_rfl) (by kernel_rfl) (by kernel_rfl) (by kernel_rfl) (fun _ _ _ h => h) (by rfl) (fun W hS => ?_) HS0 ?_
  · go_simp
  try simp only [Act.put, List.setIfInBounds_toArray, List.set_cons_zero, List.set_cons_succ]
  refine wpAnyL_take (i := 1) (some 4) (v := .int .u8 (y % 4)) rfl rfl (by kernel_rfl) (by kernel_rfl) (by kernel_rfl) (by kernel_rfl) (fun _ _ _ h => h) (by rfl) (fun W hS => ?_) HS0 ?_
  · go_simp
  try simp only [Act.put, List.setIfInBounds_toArray, List.set_cons_zero, List.set_cons_succ]
  refine wpAnyL_take (i := 2) (some 5) (v := .int .u8 (97 + y % 4)) rfl rfl (by kernel_rfl) (by kernel_rfl) (by kernel_rfl) (by kernel_rfl) (fun _ _ _ h => h) (by rfl) (fun W hS => ?_) HS0 ?_
  · go_simp
  try simp only [Act.put, List.setIfInBounds_toArray, List.set_cons_zero, List.set_cons_succ]
  refine wpAnyL_take (i := 7) (some 10) (v := .int .u8 y) rfl rfl (by kernel_rfl) (by kernel_rfl) (by kernel_rfl) (by kernel_rfl) (fun _ _ _ h => h) (by rfl) (fun W hS => ?_) HS0 ?_
  · go_simp
  try simp only [Act.put, List.setIfInBounds_toArray, List.set_cons_zero, List.set_cons_succ]
  refine wpAnyL_take (i := 8) (some 11) (v := .int .i64 y) rfl rfl (by kernel_rfl) (by kernel_rfl) (by kernel_rfl) (by kernel_rfl) (fun _ _ _ h => h) (by rfl) (fun W hS => ?_) HS0 ?_
  · go_simp
  try simp only [Act.put, List.setIfInBounds_toArray, List.set_cons_zero, List.set_cons_succ]
  refine wpAnyL_take (i := 9) (some 12) (v := .int .i64 (y / 4)) rfl rfl (by kernel_rfl) (by kernel_rfl) (by kernel_rfl) (by kernel_rfl) (fun _ _ _ h => h) (by rfl) (fun W hS => ?_) HS0 ?_
  · go_simp
  try simp only [Act.put, List.setIfInBounds_toArray, List.set_cons_zero, List.set_cons_succ]
  refine wpAnyL_take (i := 10) (some 13) (v := .int .i64 (y / 4 % 5)) rfl rfl (by kernel_rfl) (by kernel_rfl) (by kernel_rfl) (by kernel_rfl) (fun _ _ _ h => h) (by rfl) (fun W hS => ?_) HS0 ?_
  · go_simp
  try simp only [Act.put, List.setIfInBounds_toArray, List.set_cons_zero, List.set_cons_succ]
  refine wpAnyL_two (i := 3) (j := 11) (by kernel_rfl) rfl rfl (by rfl) (by rfl) (fun K hK => ?_) (fun K hK => ?_)
  · skip
    refine oper_wp_valD (some 6) (v := .slice (some ⟨w.heap.size, 0, none⟩) 1 1) (w' := ((w.alloc (.cells #[.int .u8 (97 + y % 4)] 5)).drew)) rfl (by go_simp) ?_
    have HS1 : Below w.heap.size w (w.alloc (.cells #[.int .u8 (97 + y % 4)] 5)).drew := ((Below.refl _ w).alloc (Nat.le_refl _) _).drew
    refine hK _ _ (fun _ => HS1) ?_
    clear hK K
    try simp only [Act.put, List.setIfInBounds_toArray, List.set_cons_zero, List.set_cons_succ]
    have HC1 : (w.alloc (.cells #[.int .u8 (97 + y % 4)] 5)).drew.cell? ⟨w.heap.size, 0, none⟩ = some (.int .u8 (97 + y % 4)) := new9 w _
    refine wpAnyL_two (i := 4) (j := 11) (by kernel_rfl) rfl rfl (by rfl) (by rfl) (fun K hK => ?_) (fun K hK => ?_)
    · skip
      have hcv := conv_at ((w.alloc (.cells #[.int .u8 (97 + y % 4)] 5)).drew) w.heap.size (97 + y % 4) HC1
      refine oper_wp_valD (some 7) (v := .string ⟨#[UInt8.ofNat (97 + y % 4).toNat]⟩) (w' := ((w.alloc (.cells #[.int .u8 (97 + y % 4)] 5)).drew)) rfl (by go_simp) ?_
      clear hcv
      refine hK _ _ (fun _ => HS1) ?_
      clear hK K
      try simp only [Act.put, List.setIfInBounds_toArray, List.set_cons_zero, List.set_cons_succ]
      refine wpAnyL_take (i := 5) (some 8) (v := .string (⟨#[123]⟩ ++ ⟨#[UInt8.ofNat (97 + y % 4).toNat]⟩)) rfl rfl (by kernel_rfl) (by kernel_rfl) (by kernel_rfl) (by kernel_rfl) (fun _ _ _ h => h) (by rfl) (fun W hS => ?_) HS1 ?_
      · go_simp
      try simp only [Act.put, List.setIfInBounds_toArray, List.set_cons_zero, List.set_cons_succ]
      refine wpAnyL_take (i := 6) (some 9) (v := .string (⟨#[123]⟩ ++ ⟨#[UInt8.ofNat (97 + y % 4).toNat]⟩ ++ ⟨#[125]⟩)) rfl rfl (by kernel_rfl) (by kernel_rfl) (by kernel_rfl) (by kernel_rfl) (fun _ _ _ h => h) (by rfl) (fun W hS => ?_) HS1 ?_
      · go_simp
      try simp only [Act.put, List.setIfInBounds_toArray, List.set_cons_zero, List.set_cons_succ]
      refine wpAnyL_one (j := 11) (by kernel_rfl) rfl (by rfl) (fun K hK => ?_)
      go_simp
      refine (HD.out _).mono ?_
      rintro e w2 ⟨rfl, hb⟩
      have HS2 := HS1.trans (hb.mono HS1.size)
      clear hb
      refine hK _ _ (fun _ => HS2) ?_
      clear hK K
      try simp only [Act.put, List.setIfInBounds_toArray, List.set_cons_zero, List.set_cons_succ]
      refine wpAnyL_take (i := 12) (some 15) (v := .string (⟨#[123]⟩ ++ ⟨#[UInt8.ofNat (97 + y % 4).toNat]⟩ ++ ⟨#[125]⟩ ++ ⟨(Dig.dec (y / 4 % 5)).toArray⟩)) rfl rfl (by kernel_rfl) (by kernel_rfl) (by kernel_rfl) (by kernel_rfl) (fun _ _ _ h => h) (by rfl) (fun W hS => ?_) HS2 ?_
      · go_simp
      try simp only [Act.put, List.setIfInBounds_toArray, List.set_cons_zero, List.set_cons_succ]
      refine wpAnyL_one (j := 13) (by kernel_rfl) rfl (by rfl) (fun K hK => ?_)
      refine oper_wp_valD (some 2) (v := .string (⟨#[123]⟩ ++ ⟨#[UInt8.ofNat (97 + y % 4).toNat]⟩ ++ ⟨#[125]⟩ ++ ⟨(Dig.dec (y / 4 % 5)).toArray⟩)) (w' := w2) rfl (by go_simp) ?_
      refine hK _ _ (fun _ => HS2) ?_
      clear hK K
      try simp only [Act.put, List.setIfInBounds_toArray, List.set_cons_zero, List.set_cons_succ]
      refine wpAnyL_done (by kernel_rfl) ?_ _
      go_wp2_with fail
      go_ret
      exact ⟨by rw [HSO.out]; rfl, HS2⟩
    · skip
      go_simp
      refine (HD.out _).mono ?_
      rintro e w2 ⟨rfl, hb⟩
      have HS2 := HS1.trans (hb.mono HS1.size)
      have HC2 := cell_next9 HC1 hb
      clear hb
      refine hK _ _ (fun _ => HS2) ?_
      clear hK K
      try simp only [Act.put, List.setIfInBounds_toArray, List.set_cons_zero, List.set_cons_succ]
      refine wpAnyL_one (j := 4) (by kernel_rfl) rfl (by rfl) (fun K hK => ?_)
      have hcv := conv_at (w2) w.heap.size (97 + y % 4) HC2
      refine oper_wp_valD (some 7) (v := .string ⟨#[UInt8.ofNat (97 + y % 4).toNat]⟩) (w' := (w2)) rfl (by go_simp) ?_
      clear hcv
      refine hK _ _ (fun _ => HS2) ?_
      clear hK K
      try simp only [Act.put, List.setIfInBounds_toArray, List.set_cons_zero, List.set_cons_succ]
      refine wpAnyL_take (i := 5) (some 8) (v := .string (⟨#[123]⟩ ++ ⟨#[UInt8.ofNat (97 + y % 4).toNat]⟩)) rfl rfl (by kernel_rfl) (by kernel_rfl) (by kernel_rfl) (by kernel_rfl) (fun _ _ _ h => h) (by rfl) (fun W hS => ?_) HS2 ?_
      · go_simp
      try simp only [Act.put, List.setIfInBounds_toArray, List.set_cons_zero, List.set_cons_succ]
      refine wpAnyL_take (i := 6) (some 9) (v := .string (⟨#[123]⟩ ++ ⟨#[UInt8.ofNat (97 + y % 4).toNat]⟩ ++ ⟨#[125]⟩)) rfl rfl (by kernel_rfl) (by kernel_rfl) (by kernel_rfl) (by kernel_rfl) (fun _ _ _ h => h) (by rfl) (fun W hS => ?_) HS2 ?_
      · go_simp
      try simp only [Act.put, List.setIfInBounds_toArray, List.set_cons_zero, List.set_cons_succ]
      refine wpAnyL_take (i := 12) (some 15) (v := .string (⟨#[123]⟩ ++ ⟨#[UInt8.ofNat (97 + y % 4).toNat]⟩ ++ ⟨#[125]⟩ ++ ⟨(Dig.dec (y / 4 % 5)).toArray⟩)) rfl rfl (by kernel_rfl) (by kernel_rfl) (by kernel_rfl) (by kernel_rfl) (fun _ _ _ h => h) (by rfl) (fun W hS => ?_) HS2 ?_
      · go_simp
      try simp only [Act.put, List.setIfInBounds_toArray, List.set_cons_zero, List.set_cons_succ]
      refine wpAnyL_one (j := 13) (by kernel_rfl) rfl (by rfl) (fun K hK => ?_)
      refine oper_wp_valD (some 2) (v := .string (⟨#[123]⟩ ++ ⟨#[UInt8.ofNat (97 + y % 4).toNat]⟩ ++ ⟨#[125]⟩ ++ ⟨(Dig.dec (y / 4 % 5)).toArray⟩)) (w' := w2) rfl (by go_simp) ?_
      refine hK _ _ (fun _ => HS2) ?_
      clear hK K
      try simp only [Act.put, List.setIfInBounds_toArray, List.set_cons_zero, List.set_cons_succ]
      refine wpAnyL_done (by kernel_rfl) ?_ _
      go_wp2_with fail
      go_ret
      exact ⟨by rw [HSO.out]; rfl, HS2⟩
  · skip
    go_simp
    refine (HD.out _).mono ?_
    rintro e w1 ⟨rfl, hb⟩
    have HS1 := HS0.trans (hb.mono HS0.size)
    clear hb
    refine hK _ _ (fun _ => HS1) ?_
    clear hK K
    try simp only [Act.put, List.setIfInBounds_toArray, List.set_cons_zero, List.set_cons_succ]
    refine wpAnyL_one (j := 3) (by kernel_rfl) rfl (by rfl) (fun K hK => ?_)
    refine oper_wp_valD (some 6) (v := .slice (some ⟨w1.heap.size, 0, none⟩) 1 1) (w' := ((w1.alloc (.cells #[.int .u8 (97 + y % 4)] 5)))) rfl (by go_simp) ?_
    have HS2 := HS1.alloc (HS1.size) (.cells #[.int .u8 (97 + y % 4)] 5)
    refine hK _ _ (fun _ => HS2) ?_
    clear hK K
    try simp only [Act.put, List.setIfInBounds_toArray, List.set_cons_zero, List.set_cons_succ]
    have HC1 : (w1.alloc (.cells #[.int .u8 (97 + y % 4)] 5)).cell? ⟨w1.heap.size, 0, none⟩ = some (.int .u8 (97 + y % 4)) := new9b w1 _
    refine wpAnyL_one (j := 4) (by kernel_rfl) rfl (by rfl) (fun K hK => ?_)
    have hcv := conv_at ((w1.alloc (.cells #[.int .u8 (97 + y % 4)] 5))) w1.heap.size (97 + y % 4) HC1
    refine oper_wp_valD (some 7) (v := .string ⟨#[UInt8.ofNat (97 + y % 4).toNat]⟩) (w' := ((w1.alloc (.cells #[.int .u8 (97 + y % 4)] 5)))) rfl (by go_simp) ?_
    clear hcv
    refine hK _ _ (fun _ => HS2) ?_
    clear hK K
    try simp only [Act.put, List.setIfInBounds_toArray, List.set_cons_zero, List.set_cons_succ]
    refine wpAnyL_take (i := 5) (some 8) (v := .string (⟨#[123]⟩ ++ ⟨#[UInt8.ofNat (97 + y % 4).toNat]⟩)) rfl rfl (by kernel_rfl) (by kernel_rfl) (by kernel_rfl) (by kernel_rfl) (fun _ _ _ h => h) (by rfl) (fun W hS => ?_) HS2 ?_
    · go_simp
    try simp only [Act.put, List.setIfInBounds_toArray, List.set_cons_zero, List.set_cons_succ]
    refine wpAnyL_take (i := 6) (some 9) (v := .string (⟨#[123]⟩ ++ ⟨#[UInt8.ofNat (97 + y % 4).toNat]⟩ ++ ⟨#[125]⟩)) rfl rfl (by kernel_rfl) (by kernel_rfl) (by kernel_rfl) (by kernel_rfl) (fun _ _ _ h => h) (by rfl) (fun W hS => ?_) HS2 ?_
    · go_simp
    try simp only [Act.put, List.setIfInBounds_toArray, List.set_cons_zero, List.set_cons_succ]
    refine wpAnyL_take (i := 12) (some 15) (v := .string (⟨#[123]⟩ ++ ⟨#[UInt8.ofNat (97 + y % 4).toNat]⟩ ++ ⟨#[125]⟩ ++ ⟨(Dig.dec (y / 4 % 5)).toArray⟩)) rfl rfl (by kernel_rfl) (by kernel_rfl) (by kernel_rfl) (by kernel_rfl) (fun _ _ _ h => h) (by rfl) (fun W hS => ?_) HS2 ?_
    · go_simp
    try simp only [Act.put, List.setIfInBounds_toArray, List.set_cons_zero, List.set_cons_succ]
    refine wpAnyL_one (j := 13) (by kernel_rfl) rfl (by rfl) (fun K hK => ?_)
    refine oper_wp_valD (some 2) (v := .string (⟨#[123]⟩ ++ ⟨#[UInt8.ofNat (97 + y % 4).toNat]⟩ ++ ⟨#[125]⟩ ++ ⟨(Dig.dec (y / 4 % 5)).toArray⟩)) (w' := (w1.alloc (.cells #[.int .u8 (97 + y % 4)] 5))) rfl (by go_simp) ?_
    refine hK _ _ (fun _ => HS2) ?_
    clear hK K
    try simp only [Act.put, List.setIfInBounds_toArray, List.set_cons_zero, List.set_cons_succ]
    refine wpAnyL_done (by kernel_rfl) ?_ _
    go_wp2_with fail
    go_ret
    exact ⟨by rw [HSO.out]; rfl, HS2⟩
end Go.Proofs.YtahmddopbmjepaaDoor
