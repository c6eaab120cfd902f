/- The contract of Make: no numbers, one number, all. What Make makes may be. The contract of the law's Key: a key by a number (11). -/
import Derived.Test.YtihleddhjmejoaaMD19
import Derived.Test.YtihleddhjmejoaaMD20
import Derived.Test.YtihleddhjmejoaaMD21
import Derived.Test.YtihleddhjmejoaaMD22
import Derived.Test.YtihleddhjmejoaaMD18
import Derived.Test.YtihleddhjmejoaaMD06
namespace Go.Proofs.Ytihleddhjmejoaa
open Go.RowKit Go.Shelf
set_option linter.unusedVariables false
set_option linter.unusedSimpArgs false

set_option maxRecDepth 100000 in
set_option maxHeartbeats 4000000 in
theorem make_nil (p : Option Addr) (cap : Nat) (x : Int) (w : World) (h0 : 0 ≤ x) (h1 : x ≤ 255) :
    Calls Try.prog 46 #[.slice p 0 cap, .int .u8 x] w (MadeAt ⟨1, [], [], [], 0⟩ w) := by
  have hz := ItBox.new w 1 [] none 0 0 none 0 0 0
  have HZ := Lib.hid hz
  clear hz
  go_enter Try.func46, Try.ntmps46
  go_wp2_with fail
  obtain ⟨we, hwe⟩ : ∃ we, w.alloc (itc 1 [] none 0 0 none 0 0 0) = we := ⟨_, rfl⟩
  have hbz : ItBox we w.heap.size 1 [] none 0 0 none 0 0 0 := hwe ▸ HZ.out
  have hbl : Below w.heap.size w we := by rw [← hwe]; exact (Below.refl _ w).alloc (Nat.le_refl _) _
  show bodyPost _ _ _ .ret _ (w.alloc (itc 1 [] none 0 0 none 0 0 0))
  rw [hwe]
  exact bodyPost_ret (results_cell rfl rfl (loadVarI hbz)) rfl ⟨none, 0, none, 0, rfl, fds_nil _, wds_nil _, hbl, fresh_none w⟩

set_option maxRecDepth 100000 in
set_option maxHeartbeats 8000000 in
theorem make_one (b0 off cap : Nat) (n : UInt8) (x : Int) (w : World) (h0 : 0 ≤ x) (h1 : x ≤ 255) (hw0 : w.cell? ⟨b0, off, none⟩ = some (.int .u8 (n.toNat : Int))) (hk : (n.toNat : Int) % 4 ≠ 0) :
    Calls Try.prog 46 #[.slice (some ⟨b0, off, none⟩) 1 cap, .int .u8 x] w (MadeAt ⟨1, Dig.dec (n.toNat : Int), [], [], Mk.eOf x⟩ w) := by
  have hlt0 : b0 < w.heap.size := World.block_lt_of_cell? w _ hw0
  obtain ⟨y0, hy0⟩ : ∃ y0, (n.toNat : Int) = y0 := ⟨_, rfl⟩
  have hyb := byte_bd n
  have hd3 := (Mk.small_at n).2.2
  rw [hy0] at hw0 hk hyb hd3 ⊢
  obtain ⟨i1, i2⟩ := hyb
  obtain ⟨K, hK⟩ : ∃ K, 1 + y0 % 4 = K := ⟨_, rfl⟩
  have hK1 : (K != 1) = true := by rw [bne_iff_ne]; omega
  have hK2 : (K == 1) = false := by rw [beq_eq_false_iff_ne]; omega
  obtain ⟨ee, hee⟩ : ∃ ee, Mk.eOf x = ee := ⟨_, rfl⟩
  rw [hee]
  have HEE := Lib.hid hee
  have HD := Lib.hid (fun W => digits_any y0 W (by omega) (by omega))
  have HW0 := Lib.hid hw0
  have HK := Lib.hid hK
  have hKb : 1 ≤ K ∧ K ≤ 4 := by omega
  obtain ⟨kb1, kb2⟩ := hKb
  clear hy0 hee hk
  go_enter Try.func46, Try.ntmps46
  go_upto_if 21 with (fail)
  go_cut [] (fun wx => MkAt w K ee wx)
  case first =>
    by_cases h3 : x % 3 = 0
    · go_wp2_with fail
      go_meet
      case rel => rw [← HEE.out, show Mk.eOf x = x from if_pos h3]; exact mkAt_exp w K x
    · have h3b : (x % 3 == 0) = false := by rw [beq_eq_false_iff_ne]; exact h3
      go_wp2_with fail
      go_meet
      case rel => rw [← HEE.out, show Mk.eOf x = 0 from if_neg h3]; exact mkAt_new w K
  case rest =>
    obtain ⟨hbx, hbr, hbw, hzw⟩ := hcut
    have yc : wc.cell? ⟨b0, off, none⟩ = some (.int .u8 y0) := (hbw.cell (p := ⟨b0, off, none⟩) hlt0).trans HW0.out
    obtain ⟨c0, c1, c2, c3, c4⟩ := ItBox.at hbx
    have HBX := Lib.hid hbx
    have HBR := Lib.hid hbr
    have HBW := Lib.hid hbw
    have HZW := Lib.hid hzw
    have hlt1 : w.heap.size + 1 < wc.heap.size := by omega
    clear hbx hbr hbw hzw hw0
    go_wp2_with fail
    go_loop [6] (fun p => p = .int .i64 1) (fun _ => 0)
    case atStart => rfl
    case round =>
      obtain rfl := hrel
      go_upto_region 19 with (fail)
      have HS0 : wc.drew.cell? ⟨w.heap.size + 1, 4, none⟩ = some (.int .i64 ee) ∧ wc.drew.cell? ⟨b0, off, none⟩ = some (.int .u8 y0) := ⟨(World.cell?_drew _ _).trans c4, (World.cell?_drew _ _).trans yc⟩
      have hI1 : IntKind.i64.wrap y0 = y0 := IntWalk.i64_in _ (by omega)
      refine wp_region_L (S := (fun W => W.cell? ⟨w.heap.size + 1, 4, none⟩ = some (.int .i64 ee) ∧ W.cell? ⟨b0, off, none⟩ = some (.int .u8 y0))) (f := 8) (by kernel_rfl) ?_
      refine wpAnyL_take (i := 0) (some 95) (v := .slice (some ⟨b0, off, none⟩) 1 cap) rfl rfl (by kernel_rfl) (by kernel_rfl) (by kernel_rfl) (by kernel_rfl) (fun _ _ _ h => h) (by rfl) (fun W hS => ?_) HS0 ?_
      · rcases hS with ⟨m0, m1⟩
        go_simp
      try simp only [Act.put, List.setIfInBounds_toArray, List.set_cons_zero, List.set_cons_succ]
      refine wpAnyL_take (i := 1) (some 96) (v := .pointer (some ⟨b0, off, none⟩)) rfl rfl (by kernel_rfl) (by kernel_rfl) (by kernel_rfl) (by kernel_rfl) (fun _ _ _ h => h) (by rfl) (fun W hS => ?_) HS0 ?_
      · rcases hS with ⟨m0, m1⟩
        go_simp
      try simp only [Act.put, List.setIfInBounds_toArray, List.set_cons_zero, List.set_cons_succ]
      refine wpAnyL_take (i := 2) (some 97) (v := .int .u8 y0) rfl rfl (by kernel_rfl) (by kernel_rfl) (by kernel_rfl) (by kernel_rfl) (fun _ _ _ h => h) (by rfl) (fun W hS => ?_) HS0 ?_
      · rcases hS with ⟨m0, m1⟩
        go_simp
      try simp only [Act.put, List.setIfInBounds_toArray, List.set_cons_zero, List.set_cons_succ]
      refine wpAnyL_take (i := 3) (some 98) (v := .int .i64 y0) rfl rfl (by kernel_rfl) (by kernel_rfl) (by kernel_rfl) (by kernel_rfl) (fun _ _ _ h => h) (by rfl) (fun W hS => ?_) HS0 ?_
      · rcases hS with ⟨m0, m1⟩
        go_simp
      try simp only [Act.put, List.setIfInBounds_toArray, List.set_cons_zero, List.set_cons_succ]
      refine wpAnyL_take (i := 5) (some 100) (v := .pointer (some ⟨w.heap.size + 1, 4, none⟩)) rfl rfl (by kernel_rfl) (by kernel_rfl) (by kernel_rfl) (by kernel_rfl) (fun _ _ _ h => h) (by rfl) (fun W hS => ?_) HS0 ?_
      · rcases hS with ⟨m0, m1⟩
        go_simp
      try simp only [Act.put, List.setIfInBounds_toArray, List.set_cons_zero, List.set_cons_succ]
      refine wpAnyL_take (i := 6) (some 101) (v := .int .i64 ee) rfl rfl (by kernel_rfl) (by kernel_rfl) (by kernel_rfl) (by kernel_rfl) (fun _ _ _ h => h) (by rfl) (fun W hS => ?_) HS0 ?_
      · rcases hS with ⟨m0, m1⟩
        go_simp
      try simp only [Act.put, List.setIfInBounds_toArray, List.set_cons_zero, List.set_cons_succ]
      refine wpAnyL_one (j := 4) (by kernel_rfl) rfl (by rfl) (fun K hK => ?_)
      go_simp
      with_reducible refine (HD.out _).mono ?_
      rintro e w1 ⟨rfl, hb⟩
      have HS1 := cell2_next HS0 hb
      have HB1 := Lib.hid (((Below.refl _ wc).drew).trans hb)
      clear hb
      refine hK _ _ (fun _ => HS1) ?_
      clear hK K
      try simp only [Act.put, List.setIfInBounds_toArray, List.set_cons_zero, List.set_cons_succ]
      refine wpAnyL_take (i := 7) (some 102) (v := .agg #[.int .i64 1, .string ⟨(Dig.dec y0).toArray⟩, .slice none 0 0, .slice none 0 0, .int .i64 ee]) rfl rfl (by kernel_rfl) (by kernel_rfl) (by kernel_rfl) (by kernel_rfl) (fun _ _ _ h => h) (by rfl) (fun W hS => ?_) HS1 ?_
      · rcases hS with ⟨m0, m1⟩
        go_simp
      try simp only [Act.put, List.setIfInBounds_toArray, List.set_cons_zero, List.set_cons_succ]
      have hbe := ItBox.later HBR.out HB1.out
      obtain ⟨z0, z1, z2, z3, z4⟩ := ItBox.at hbe
      obtain ⟨f0, f1, f2, f3, f4⟩ := ItBox.free hbe
      have HBE := Lib.hid (hbe.store 1 (Dig.dec y0) none 0 0 none 0 0 ee)
      clear hbe
      refine wpAnyL_one (j := 8) (by kernel_rfl) rfl (by rfl) (fun K hK => ?_)
      go_simp
      refine hK _ _ (fun h => (h rfl).elim) ?_
      clear hK K
      try simp only [Act.put, List.setIfInBounds_toArray, List.set_cons_zero, List.set_cons_succ]
      refine wpAnyL_done (by kernel_rfl) ?_ _
      go_wp2_with fail
      obtain ⟨we, hwe⟩ : ∃ we, stIt w1 w.heap.size 1 (Dig.dec y0) none 0 0 none 0 0 ee = we := ⟨_, rfl⟩
      have hbz : ItBox we w.heap.size 1 (Dig.dec y0) none 0 0 none 0 0 ee := hwe ▸ HBE.out
      have hbl : Below w.heap.size w we := by
        rw [← hwe]
        exact (Keeps.stIt (S := fun j => j < w.heap.size) (Keeps.of_below (HBW.out.trans (HB1.out.mono HBW.out.size)) fun j _ h => h) (.inl (Nat.le_refl _)) 1 (Dig.dec y0) none 0 0 none 0 0 ee).below (Nat.le_refl _) fun j hj => hj
      show bodyPost _ _ _ .ret _ (stIt w1 w.heap.size 1 (Dig.dec y0) none 0 0 none 0 0 ee)
      rw [hwe]
      exact bodyPost_ret (results_cell rfl rfl (loadVarI hbz)) rfl ⟨none, 0, none, 0, rfl, fds_nil _, wds_nil _, hbl, fresh_none w⟩

theorem make_at (p : Option Addr) (cap : Nat) (ns : List UInt8) (x : Int) (w : World) (h0 : 0 ≤ x) (h1 : x ≤ 255) (hB : Bytes w p ns) (hl : ns.length ≤ 9223372036854775807) :
    Calls Try.prog 46 #[.slice p ns.length cap, .int .u8 x] w (MadeAt (Mk.mk ns x) w) := by
  cases ns with
  | nil => exact make_nil p cap x w h0 h1
  | cons n r =>
    rcases hB with hB | ⟨b0, off, rfl, hc⟩
    · cases hB
    by_cases hr : r = [] ∧ n.toNat % 4 ≠ 0
    · rw [show Mk.mk (n :: r) x = ⟨1, Dig.dec (n.toNat : Int), [], [], Mk.eOf x⟩ from if_pos hr]
      obtain ⟨rfl, hk⟩ := hr
      exact make_one b0 off cap n x w h0 h1 (by have := hc 0 (by simp); simpa using this) (by omega)
    · rw [show Mk.mk (n :: r) x = Mk.mkK (1 + ((n.toNat % 4 : Nat) : Int)) (Mk.eOf x) (r.take 8) from if_neg hr]
      have hk : n.toNat % 4 = 0 ∨ n.toNat % 4 = 1 ∨ n.toNat % 4 = 2 ∨ n.toNat % 4 = 3 := by omega
      rcases hk with hk | hk | hk | hk
      · rw [hk]; exact make_1 b0 off cap n r x w h0 h1 hl hc (by omega)
      · rw [hk]; exact make_2 b0 off cap n r x w h0 h1 hl hc (by omega) (fun h => hr ⟨h, by omega⟩)
      · rw [hk]; exact make_3 b0 off cap n r x w h0 h1 hl hc (by omega) (fun h => hr ⟨h, by omega⟩)
      · rw [hk]; exact make_4 b0 off cap n r x w h0 h1 hl hc (by omega) (fun h => hr ⟨h, by omega⟩)
theorem make_any (p : Option Addr) (cap : Nat) (ns : List UInt8) (x : Int) (w : World) (h0 : 0 ≤ x) (h1 : x ≤ 255) (hB : Bytes w p ns) (hl : ns.length ≤ 9223372036854775807) :
    Calls Try.prog 46 #[.slice p ns.length cap, .int .u8 x] w (MadeOut (Mk.mk ns x) w) := (make_at p cap ns x w h0 h1 hB hl).mono fun _ _ h => h.out
end Go.Proofs.Ytihleddhjmejoaa
namespace Go.Proofs.Ytihleddhjmejoaa
open Go.RowKit Go.Shelf
set_option linter.unusedVariables false
set_option linter.unusedSimpArgs false

namespace Mk
theorem mkK_exp (K e : Int) (t : List UInt8) : (mkK K e t).exp = e := by
  unfold mkK
  split
  · rfl
  · split
    · rfl
    · split <;> rfl
theorem eOf_bd (x : Int) (h0 : 0 ≤ x) (h1 : x ≤ 255) : 0 ≤ eOf x ∧ eOf x ≤ 255 := by unfold eOf; split <;> omega
theorem mk_exp (ns : List UInt8) (x : Int) (h0 : 0 ≤ x) (h1 : x ≤ 255) : 0 ≤ (mk ns x).exp ∧ (mk ns x).exp ≤ 255 := by
  cases ns with
  | nil => exact ⟨Int.le_refl 0, show (0 : Int) ≤ 255 by decide⟩
  | cons n r =>
    by_cases hr : r = [] ∧ n.toNat % 4 ≠ 0
    · rw [show mk (n :: r) x = ⟨1, Dig.dec (n.toNat : Int), [], [], eOf x⟩ from if_pos hr]
      exact eOf_bd x h0 h1
    · rw [show mk (n :: r) x = mkK (1 + ((n.toNat % 4 : Nat) : Int)) (eOf x) (r.take 8) from if_neg hr, mkK_exp]
      exact eOf_bd x h0 h1
end Mk

theorem make_may (ns : List UInt8) (x : Int) (h0 : 0 ≤ x) (h1 : x ≤ 255) : It.mayB (Mk.mk ns x) = true := by
  have hx : 0 ≤ (Mk.mk ns x).exp ∧ (Mk.mk ns x).exp ≤ 255 := Mk.mk_exp ns x h0 h1
  have := Mk.mk_may ns x (Mk.mk ns x).exp hx.1 (by omega)
  exact this

end Go.Proofs.Ytihleddhjmejoaa
namespace Go.Proofs.Ytihleddhjmejoaa
open Go.RowKit Go.Shelf
attribute [local go_sem] Oper.semAt_some
set_option linter.unusedVariables false
set_option linter.unusedSimpArgs false

/-- the key of a number. -/
def keyT (y : Int) : List UInt8 := 123 :: UInt8.ofNat (97 + y % 4).toNat :: 125 :: Dig.dec (y / 4 % 5)
theorem keyT_str (y : Int) : (⟨#[123]⟩ ++ ⟨#[UInt8.ofNat (97 + y % 4).toNat]⟩ ++ ⟨#[125]⟩ ++ ⟨(Dig.dec (y / 4 % 5)).toArray⟩ : ByteArray) = ⟨(keyT y).toArray⟩ := by
  apply ByteArray.ext
  simp [keyT]
theorem dec5_len (y : Int) : (Dig.dec (y / 4 % 5)).length ≤ 1 := by
  have h : y / 4 % 5 = 0 ∨ y / 4 % 5 = 1 ∨ y / 4 % 5 = 2 ∨ y / 4 % 5 = 3 ∨ y / 4 % 5 = 4 := by omega
  rcases h with h | h | h | h | h <;> rw [h] <;> decide +kernel
theorem keyT_len (y : Int) : (keyT y).length ≤ 4 := by
  have := dec5_len y
  simp only [keyT, List.length_cons]
  omega

set_option maxRecDepth 100000 in
set_option maxHeartbeats 8000000 in
theorem key_any (y : Int) (w : World) (y0 : 0 ≤ y) (y1 : y ≤ 255) : Calls Try.prog 45 #[.int .u8 y] w fun e W => e = .returned (.string ⟨(keyT y).toArray⟩) ∧ Below w.heap.size w W := by
  have HSO := Lib.hid (keyT_str y)
  have HD := Lib.hid (fun W => digits_any (y / 4 % 5) W (by omega) (by omega))
  have hT4 : y.tmod 4 = y % 4 := Int.tmod_eq_emod_of_nonneg y0
  have hD4 : y.tdiv 4 = y / 4 := Int.tdiv_eq_ediv_of_nonneg y0
  have hT5 : (y / 4).tmod 5 = y / 4 % 5 := Int.tmod_eq_emod_of_nonneg (by omega)
  have hU4 : IntKind.u8.wrap (y % 4) = y % 4 := IntWalk.u8_in _ (by omega)
  have hU8 : IntKind.u8.wrap (97 + y % 4) = 97 + y % 4 := IntWalk.u8_in _ (by omega)
  have hI1 : IntKind.i64.wrap y = y := IntWalk.i64_in _ (by omega)
  have hI4 : IntKind.i64.wrap (y / 4) = y / 4 := IntWalk.i64_in _ (by omega)
  have hI5 : IntKind.i64.wrap (y / 4 % 5) = y / 4 % 5 := IntWalk.i64_in _ (by omega)
  have hdl : 1 + 1 + 1 + (Dig.dec (y / 4 % 5)).length ≤ 9223372036854775807 := by have := dec5_len y; omega
  have hdl3 : 3 + (Dig.dec (y / 4 % 5)).length ≤ 9223372036854775807 := by have := dec5_len y; omega
  go_enter Try.func45, Try.ntmps45
  go_upto_region 1 with (fail)
  have HS0 : Below w.heap.size w w.drew := (Below.refl _ w).drew
  refine wp_region_L (S := fun W => Below w.heap.size w W) (f := 14) (by kernel_rfl) ?_
  refine wpAnyL_take (i := 0) (some 3) (v := .int .u8 y) rfl rfl (by kernel_rfl) (by kernel_rfl) (by kernel_rfl) (by kernel_rfl) (fun _ _ _ h => h) (by rfl) (fun W hS => ?_) HS0 ?_
  · go_simp
  try simp only [Act.put, List.setIfInBounds_toArray, List.set_cons_zero, List.set_cons_succ]
  refine wpAnyL_take (i := 1) (some 4) (v := .int .u8 (y % 4)) rfl rfl (by kernel_rfl) (by kernel_rfl) (by kernel_rfl) (by kernel_rfl) (fun _ _ _ h => h) (by rfl) (fun W hS => ?_) HS0 ?_
  · go_simp
  try simp only [Act.put, List.setIfInBounds_toArray, List.set_cons_zero, List.set_cons_succ]
  refine wpAnyL_take (i := 2) (some 5) (v := .int .u8 (97 + y % 4)) rfl rfl (by kernel_rfl) (by kernel_rfl) (by kernel_rfl) (by kernel_rfl) (fun _ _ _ h => h) (by rfl) (fun W hS => ?_) HS0 ?_
  · go_simp
  try simp only [Act.put, List.setIfInBounds_toArray, List.set_cons_zero, List.set_cons_succ]
  refine wpAnyL_take (i := 7) (some 10) (v := .int .u8 y) rfl rfl (by kernel_rfl) (by kernel_rfl) (by kernel_rfl) (by kernel_rfl) (fun _ _ _ h => h) (by rfl) (fun W hS => ?_) HS0 ?_
  · go_simp
  try simp only [Act.put, List.setIfInBounds_toArray, List.set_cons_zero, List.set_cons_succ]
  refine wpAnyL_take (i := 8) (some 11) (v := .int .i64 y) rfl rfl (by kernel_rfl) (by kernel_rfl) (by kernel_rfl) (by kernel_rfl) (fun _ _ _ h => h) (by rfl) (fun W hS => ?_) HS0 ?_
  · go_simp
  try simp only [Act.put, List.setIfInBounds_toArray, List.set_cons_zero, List.set_cons_succ]
  refine wpAnyL_take (i := 9) (some 12) (v := .int .i64 (y / 4)) rfl rfl (by kernel_rfl) (by kernel_rfl) (by kernel_rfl) (by kernel_rfl) (fun _ _ _ h => h) (by rfl) (fun W hS => ?_) HS0 ?_
  · go_simp
  try simp only [Act.put, List.setIfInBounds_toArray, List.set_cons_zero, List.set_cons_succ]
  refine wpAnyL_take (i := 10) (some 13) (v := .int .i64 (y / 4 % 5)) rfl rfl (by kernel_rfl) (by kernel_rfl) (by kernel_rfl) (by kernel_rfl) (fun _ _ _ h => h) (by rfl) (fun W hS => ?_) HS0 ?_
  · go_simp
  try simp only [Act.put, List.setIfInBounds_toArray, List.set_cons_zero, List.set_cons_succ]
  refine wpAnyL_two (i := 3) (j := 11) (by kernel_rfl) rfl rfl (by rfl) (by rfl) (fun K hK => ?_) (fun K hK => ?_)
  · skip
    refine oper_wp_valD (some 6) (v := .slice (some ⟨w.heap.size, 0, none⟩) 1 1) (w' := ((w.alloc (.cells #[.int .u8 (97 + y % 4)] 5)).drew)) rfl (by go_simp) ?_
    have HS1 : Below w.heap.size w (w.alloc (.cells #[.int .u8 (97 + y % 4)] 5)).drew := ((Below.refl _ w).alloc (Nat.le_refl _) _).drew
    refine hK _ _ (fun _ => HS1) ?_
    clear hK K
    try simp only [Act.put, List.setIfInBounds_toArray, List.set_cons_zero, List.set_cons_succ]
    have HC1 : (w.alloc (.cells #[.int .u8 (97 + y % 4)] 5)).drew.cell? ⟨w.heap.size, 0, none⟩ = some (.int .u8 (97 + y % 4)) := new9 w _
    refine wpAnyL_two (i := 4) (j := 11) (by kernel_rfl) rfl rfl (by rfl) (by rfl) (fun K hK => ?_) (fun K hK => ?_)
    · skip
      have hcv := conv_at ((w.alloc (.cells #[.int .u8 (97 + y % 4)] 5)).drew) w.heap.size (97 + y % 4) HC1
      refine oper_wp_valD (some 7) (v := .string ⟨#[UInt8.ofNat (97 + y % 4).toNat]⟩) (w' := ((w.alloc (.cells #[.int .u8 (97 + y % 4)] 5)).drew)) rfl (by go_simp) ?_
      clear hcv
      refine hK _ _ (fun _ => HS1) ?_
      clear hK K
      try simp only [Act.put, List.setIfInBounds_toArray, List.set_cons_zero, List.set_cons_succ]
      refine wpAnyL_take (i := 5) (some 8) (v := .string (⟨#[123]⟩ ++ ⟨#[UInt8.ofNat (97 + y % 4).toNat]⟩)) rfl rfl (by kernel_rfl) (by kernel_rfl) (by kernel_rfl) (by kernel_rfl) (fun _ _ _ h => h) (by rfl) (fun W hS => ?_) HS1 ?_
      · go_simp
      try simp only [Act.put, List.setIfInBounds_toArray, List.set_cons_zero, List.set_cons_succ]
      refine wpAnyL_take (i := 6) (some 9) (v := .string (⟨#[123]⟩ ++ ⟨#[UInt8.ofNat (97 + y % 4).toNat]⟩ ++ ⟨#[125]⟩)) rfl rfl (by kernel_rfl) (by kernel_rfl) (by kernel_rfl) (by kernel_rfl) (fun _ _ _ h => h) (by rfl) (fun W hS => ?_) HS1 ?_
      · go_simp
      try simp only [Act.put, List.setIfInBounds_toArray, List.set_cons_zero, List.set_cons_succ]
      refine wpAnyL_one (j := 11) (by kernel_rfl) rfl (by rfl) (fun K hK => ?_)
      go_simp
      refine (HD.out _).mono ?_
      rintro e w2 ⟨rfl, hb⟩
      have HS2 := HS1.trans (hb.mono HS1.size)
      clear hb
      refine hK _ _ (fun _ => HS2) ?_
      clear hK K
      try simp only [Act.put, List.setIfInBounds_toArray, List.set_cons_zero, List.set_cons_succ]
      refine wpAnyL_take (i := 12) (some 15) (v := .string (⟨#[123]⟩ ++ ⟨#[UInt8.ofNat (97 + y % 4).toNat]⟩ ++ ⟨#[125]⟩ ++ ⟨(Dig.dec (y / 4 % 5)).toArray⟩)) rfl rfl (by kernel_rfl) (by kernel_rfl) (by kernel_rfl) (by kernel_rfl) (fun _ _ _ h => h) (by rfl) (fun W hS => ?_) HS2 ?_
      · go_simp
      try simp only [Act.put, List.setIfInBounds_toArray, List.set_cons_zero, List.set_cons_succ]
      refine wpAnyL_one (j := 13) (by kernel_rfl) rfl (by rfl) (fun K hK => ?_)
      refine oper_wp_valD (some 2) (v := .string (⟨#[123]⟩ ++ ⟨#[UInt8.ofNat (97 + y % 4).toNat]⟩ ++ ⟨#[125]⟩ ++ ⟨(Dig.dec (y / 4 % 5)).toArray⟩)) (w' := w2) rfl (by go_simp) ?_
      refine hK _ _ (fun _ => HS2) ?_
      clear hK K
      try simp only [Act.put, List.setIfInBounds_toArray, List.set_cons_zero, List.set_cons_succ]
      refine wpAnyL_done (by kernel_rfl) ?_ _
      go_wp2_with fail
      go_ret
      exact ⟨by rw [HSO.out]; rfl, HS2⟩
    · skip
      go_simp
      refine (HD.out _).mono ?_
      rintro e w2 ⟨rfl, hb⟩
      have HS2 := HS1.trans (hb.mono HS1.size)
      have HC2 := cell_next9 HC1 hb
      clear hb
      refine hK _ _ (fun _ => HS2) ?_
      clear hK K
      try simp only [Act.put, List.setIfInBounds_toArray, List.set_cons_zero, List.set_cons_succ]
      refine wpAnyL_one (j := 4) (by kernel_rfl) rfl (by rfl) (fun K hK => ?_)
      have hcv := conv_at (w2) w.heap.size (97 + y % 4) HC2
      refine oper_wp_valD (some 7) (v := .string ⟨#[UInt8.ofNat (97 + y % 4).toNat]⟩) (w' := (w2)) rfl (by go_simp) ?_
      clear hcv
      refine hK _ _ (fun _ => HS2) ?_
      clear hK K
      try simp only [Act.put, List.setIfInBounds_toArray, List.set_cons_zero, List.set_cons_succ]
      refine wpAnyL_take (i := 5) (some 8) (v := .string (⟨#[123]⟩ ++ ⟨#[UInt8.ofNat (97 + y % 4).toNat]⟩)) rfl rfl (by kernel_rfl) (by kernel_rfl) (by kernel_rfl) (by kernel_rfl) (fun _ _ _ h => h) (by rfl) (fun W hS => ?_) HS2 ?_
      · go_simp
      try simp only [Act.put, List.setIfInBounds_toArray, List.set_cons_zero, List.set_cons_succ]
      refine wpAnyL_take (i := 6) (some 9) (v := .string (⟨#[123]⟩ ++ ⟨#[UInt8.ofNat (97 + y % 4).toNat]⟩ ++ ⟨#[125]⟩)) rfl rfl (by kernel_rfl) (by kernel_rfl) (by kernel_rfl) (by kernel_rfl) (fun _ _ _ h => h) (by rfl) (fun W hS => ?_) HS2 ?_
      · go_simp
      try simp only [Act.put, List.setIfInBounds_toArray, List.set_cons_zero, List.set_cons_succ]
      refine wpAnyL_take (i := 12) (some 15) (v := .string (⟨#[123]⟩ ++ ⟨#[UInt8.ofNat (97 + y % 4).toNat]⟩ ++ ⟨#[125]⟩ ++ ⟨(Dig.dec (y / 4 % 5)).toArray⟩)) rfl rfl (by kernel_rfl) (by kernel_rfl) (by kernel_rfl) (by kernel_rfl) (fun _ _ _ h => h) (by rfl) (fun W hS => ?_) HS2 ?_
      · go_simp
      try simp only [Act.put, List.setIfInBounds_toArray, List.set_cons_zero, List.set_cons_succ]
      refine wpAnyL_one (j := 13) (by kernel_rfl) rfl (by rfl) (fun K hK => ?_)
      refine oper_wp_valD (some 2) (v := .string (⟨#[123]⟩ ++ ⟨#[UInt8.ofNat (97 + y % 4).toNat]⟩ ++ ⟨#[125]⟩ ++ ⟨(Dig.dec (y / 4 % 5)).toArray⟩)) (w' := w2) rfl (by go_simp) ?_
      refine hK _ _ (fun _ => HS2) ?_
      clear hK K
      try simp only [Act.put, List.setIfInBounds_toArray, List.set_cons_zero, List.set_cons_succ]
      refine wpAnyL_done (by kernel_rfl) ?_ _
      go_wp2_with fail
      go_ret
      exact ⟨by rw [HSO.out]; rfl, HS2⟩
  · skip
    go_simp
    refine (HD.out _).mono ?_
    rintro e w1 ⟨rfl, hb⟩
    have HS1 := HS0.trans (hb.mono HS0.size)
    clear hb
    refine hK _ _ (fun _ => HS1) ?_
    clear hK K
    try simp only [Act.put, List.setIfInBounds_toArray, List.set_cons_zero, List.set_cons_succ]
    refine wpAnyL_one (j := 3) (by kernel_rfl) rfl (by rfl) (fun K hK => ?_)
    refine oper_wp_valD (some 6) (v := .slice (some ⟨w1.heap.size, 0, none⟩) 1 1) (w' := ((w1.alloc (.cells #[.int .u8 (97 + y % 4)] 5)))) rfl (by go_simp) ?_
    have HS2 := HS1.alloc (HS1.size) (.cells #[.int .u8 (97 + y % 4)] 5)
    refine hK _ _ (fun _ => HS2) ?_
    clear hK K
    try simp only [Act.put, List.setIfInBounds_toArray, List.set_cons_zero, List.set_cons_succ]
    have HC1 : (w1.alloc (.cells #[.int .u8 (97 + y % 4)] 5)).cell? ⟨w1.heap.size, 0, none⟩ = some (.int .u8 (97 + y % 4)) := new9b w1 _
    refine wpAnyL_one (j := 4) (by kernel_rfl) rfl (by rfl) (fun K hK => ?_)
    have hcv := conv_at ((w1.alloc (.cells #[.int .u8 (97 + y % 4)] 5))) w1.heap.size (97 + y % 4) HC1
    refine oper_wp_valD (some 7) (v := .string ⟨#[UInt8.ofNat (97 + y % 4).toNat]⟩) (w' := ((w1.alloc (.cells #[.int .u8 (97 + y % 4)] 5)))) rfl (by go_simp) ?_
    clear hcv
    refine hK _ _ (fun _ => HS2) ?_
    clear hK K
    try simp only [Act.put, List.setIfInBounds_toArray, List.set_cons_zero, List.set_cons_succ]
    refine wpAnyL_take (i := 5) (some 8) (v := .string (⟨#[123]⟩ ++ ⟨#[UInt8.ofNat (97 + y % 4).toNat]⟩)) rfl rfl (by kernel_rfl) (by kernel_rfl) (by kernel_rfl) (by kernel_rfl) (fun _ _ _ h => h) (by rfl) (fun W hS => ?_) HS2 ?_
    · go_simp
    try simp only [Act.put, List.setIfInBounds_toArray, List.set_cons_zero, List.set_cons_succ]
    refine wpAnyL_take (i := 6) (some 9) (v := .string (⟨#[123]⟩ ++ ⟨#[UInt8.ofNat (97 + y % 4).toNat]⟩ ++ ⟨#[125]⟩)) rfl rfl (by kernel_rfl) (by kernel_rfl) (by kernel_rfl) (by kernel_rfl) (fun _ _ _ h => h) (by rfl) (fun W hS => ?_) HS2 ?_
    · go_simp
    try simp only [Act.put, List.setIfInBounds_toArray, List.set_cons_zero, List.set_cons_succ]
    refine wpAnyL_take (i := 12) (some 15) (v := .string (⟨#[123]⟩ ++ ⟨#[UInt8.ofNat (97 + y % 4).toNat]⟩ ++ ⟨#[125]⟩ ++ ⟨(Dig.dec (y / 4 % 5)).toArray⟩)) rfl rfl (by kernel_rfl) (by kernel_rfl) (by kernel_rfl) (by kernel_rfl) (fun _ _ _ h => h) (by rfl) (fun W hS => ?_) HS2 ?_
    · go_simp
    try simp only [Act.put, List.setIfInBounds_toArray, List.set_cons_zero, List.set_cons_succ]
    refine wpAnyL_one (j := 13) (by kernel_rfl) rfl (by rfl) (fun K hK => ?_)
    refine oper_wp_valD (some 2) (v := .string (⟨#[123]⟩ ++ ⟨#[UInt8.ofNat (97 + y % 4).toNat]⟩ ++ ⟨#[125]⟩ ++ ⟨(Dig.dec (y / 4 % 5)).toArray⟩)) (w' := (w1.alloc (.cells #[.int .u8 (97 + y % 4)] 5))) rfl (by go_simp) ?_
    refine hK _ _ (fun _ => HS2) ?_
    clear hK K
    try simp only [Act.put, List.setIfInBounds_toArray, List.set_cons_zero, List.set_cons_succ]
    refine wpAnyL_done (by kernel_rfl) ?_ _
    go_wp2_with fail
    go_ret
    exact ⟨by rw [HSO.out]; rfl, HS2⟩
end Go.Proofs.Ytihleddhjmejoaa
