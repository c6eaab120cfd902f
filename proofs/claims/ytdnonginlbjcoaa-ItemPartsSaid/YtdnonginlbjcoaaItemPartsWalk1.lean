/- The walk of ItemParts, kinds 2 and 3. -/
import Derived.Test.YtdnonginlbjcoaaItNew
namespace Go.Proofs.Ytdnonginlbjcoaa
open Go.RowKit Go.Shelf
set_option linter.unusedVariables false
set_option linter.unusedSimpArgs false

set_option maxRecDepth 100000 in
set_option maxHeartbeats 8000000 in
theorem parts_20 (kind which : Int) (w : World) (h0 : 0 ≤ kind) (h1 : kind ≤ 255) (h2 : 0 ≤ which) (h3 : which ≤ 255) (hk : kind % 4 = 2) (hw : which % 3 = 0) :
    Calls Try.prog 7 #[.int .u8 kind, .int .u8 which] w fun e W' => e = .returned (.bool true) ∧ Below w.heap.size w W' := by
  have hf : Fds (((w.alloc (.cells #[.string ⟨#[97]⟩, .string ⟨#[]⟩] 37)).alloc (.cells #[.string ⟨#[98]⟩, .string ⟨#[97]⟩, .string ⟨#[98]⟩] 9)).alloc (.cells #[.string ⟨#[97]⟩, .string ⟨#[98]⟩] 9)) (some ⟨w.heap.size, 0, none⟩) 1 [([97], [])] := ((fds_new w [([97], [])] (by decide) (by decide)).later ((Below.refl _ _).alloc (Nat.le_refl _) _)).later ((Below.refl _ _).alloc (Nat.le_refl _) _)
  have hl : Wds (((w.alloc (.cells #[.string ⟨#[97]⟩, .string ⟨#[]⟩] 37)).alloc (.cells #[.string ⟨#[98]⟩, .string ⟨#[97]⟩, .string ⟨#[98]⟩] 9)).alloc (.cells #[.string ⟨#[97]⟩, .string ⟨#[98]⟩] 9)) (some ⟨w.heap.size + 1, 0, none⟩) 3 [[98], [97], [98]] := by
    have := (wds_new (w.alloc (.cells #[.string ⟨#[97]⟩, .string ⟨#[]⟩] 37)) [[98], [97], [98]] (by decide) (by decide)).later ((Below.refl _ _).alloc (Nat.le_refl _) (.cells #[.string ⟨#[97]⟩, .string ⟨#[98]⟩] 9))
    rwa [World.size_alloc] at this
  have hm : Wds (((w.alloc (.cells #[.string ⟨#[97]⟩, .string ⟨#[]⟩] 37)).alloc (.cells #[.string ⟨#[98]⟩, .string ⟨#[97]⟩, .string ⟨#[98]⟩] 9)).alloc (.cells #[.string ⟨#[97]⟩, .string ⟨#[98]⟩] 9)) (some ⟨w.heap.size + 1 + 1, 0, none⟩) 2 [[97], [98]] := by
    have := wds_new ((w.alloc (.cells #[.string ⟨#[97]⟩, .string ⟨#[]⟩] 37)).alloc (.cells #[.string ⟨#[98]⟩, .string ⟨#[97]⟩, .string ⟨#[98]⟩] 9)) [[97], [98]] (by decide) (by decide)
    rwa [World.size_alloc, World.size_alloc] at this
  have hB3 : Below w.heap.size w (((w.alloc (.cells #[.string ⟨#[97]⟩, .string ⟨#[]⟩] 37)).alloc (.cells #[.string ⟨#[98]⟩, .string ⟨#[97]⟩, .string ⟨#[98]⟩] 9)).alloc (.cells #[.string ⟨#[97]⟩, .string ⟨#[98]⟩] 9)) := (((Below.refl _ w).alloc (Nat.le_refl _) _).alloc (by simp) _).alloc (by simp; omega) _
  have hz3 : (((w.alloc (.cells #[.string ⟨#[97]⟩, .string ⟨#[]⟩] 37)).alloc (.cells #[.string ⟨#[98]⟩, .string ⟨#[97]⟩, .string ⟨#[98]⟩] 9)).alloc (.cells #[.string ⟨#[97]⟩, .string ⟨#[98]⟩] 9)).heap.size = w.heap.size + 3 := by simp
  have hm1 := fun W (h : Below (((w.alloc (.cells #[.string ⟨#[97]⟩, .string ⟨#[]⟩] 37)).alloc (.cells #[.string ⟨#[98]⟩, .string ⟨#[97]⟩, .string ⟨#[98]⟩] 9)).alloc (.cells #[.string ⟨#[97]⟩, .string ⟨#[98]⟩] 9)).heap.size (((w.alloc (.cells #[.string ⟨#[97]⟩, .string ⟨#[]⟩] 37)).alloc (.cells #[.string ⟨#[98]⟩, .string ⟨#[97]⟩, .string ⟨#[98]⟩] 9)).alloc (.cells #[.string ⟨#[97]⟩, .string ⟨#[98]⟩] 9)) W) => may_any 3 0 [] none 0 [] (some ⟨w.heap.size + 1, 0, none⟩) 3 [[98], [97], [98]] W (fds_nil W) (hl.later h) (by decide) (by decide)
  rw [show It.mayB ⟨3, [], [], [[98], [97], [98]], 0⟩ = true by decide] at hm1
  have hm2 := fun W (h : Below (((w.alloc (.cells #[.string ⟨#[97]⟩, .string ⟨#[]⟩] 37)).alloc (.cells #[.string ⟨#[98]⟩, .string ⟨#[97]⟩, .string ⟨#[98]⟩] 9)).alloc (.cells #[.string ⟨#[97]⟩, .string ⟨#[98]⟩] 9)).heap.size (((w.alloc (.cells #[.string ⟨#[97]⟩, .string ⟨#[]⟩] 37)).alloc (.cells #[.string ⟨#[98]⟩, .string ⟨#[97]⟩, .string ⟨#[98]⟩] 9)).alloc (.cells #[.string ⟨#[97]⟩, .string ⟨#[98]⟩] 9)) W) => may_any 3 0 [115] none 0 [] (some ⟨w.heap.size + 1, 0, none⟩) 3 [[98], [97], [98]] W (fds_nil W) (hl.later h) (by decide) (by decide)
  rw [show It.mayB ⟨3, [115], [], [[98], [97], [98]], 0⟩ = false by decide] at hm2
  unfold itv at hm1 hm2
  simp only [List.length_nil, List.length_cons, Nat.zero_add, Nat.reduceAdd] at hm1 hm2
  obtain ⟨W3, hW3⟩ : ∃ W3, (((w.alloc (.cells #[.string ⟨#[97]⟩, .string ⟨#[]⟩] 37)).alloc (.cells #[.string ⟨#[98]⟩, .string ⟨#[97]⟩, .string ⟨#[98]⟩] 9)).alloc (.cells #[.string ⟨#[97]⟩, .string ⟨#[98]⟩] 9)) = W3 := ⟨_, rfl⟩
  rw [hW3] at hm1 hm2 hB3 hz3
  have HM1 := Lib.hid hm1
  have HM2 := Lib.hid hm2
  have HB3 := Lib.hid hB3
  have HW3 := Lib.hid hW3
  have HZ3 := Lib.hid hz3
  clear hm1 hm2 hB3 hf hl hm hW3 hz3
  go_enter Try.func7, Try.ntmps7
  go_upto_region 3 with (fail)
  rw [show (((w.alloc (.cells #[.string ⟨#[97]⟩, .string ⟨#[]⟩] 37)).alloc (.cells #[.string ⟨#[98]⟩, .string ⟨#[97]⟩, .string ⟨#[98]⟩] 9)).alloc (.cells #[.string ⟨#[97]⟩, .string ⟨#[98]⟩] 9)) = W3 from HW3.out]
  obtain ⟨hb5, hz5⟩ := parts_w5 HZ3.out (.cells #[.int .i64 1, .string ⟨#[116]⟩, .slice none 0 0, .slice none 0 0, .int .i64 0, .int .i64 2, .string ⟨#[]⟩, .slice (some ⟨w.heap.size, 0, none⟩) 1 1, .slice none 0 0, .int .i64 0, .int .i64 3, .string ⟨#[]⟩, .slice none 0 0, .slice (some ⟨w.heap.size + 1, 0, none⟩) 3 3, .int .i64 0, .int .i64 4, .string ⟨#[]⟩, .slice none 0 0, .slice (some ⟨w.heap.size + 1 + 1, 0, none⟩) 2 2, .int .i64 0] 25) (.cells #[.int .i64 3, .string ⟨#[]⟩, .slice none 0 0, .slice (some ⟨w.heap.size + 1, 0, none⟩) 3 3, .int .i64 0] 25)
  have hx5 : ItBox ((W3.alloc (.cells #[.int .i64 1, .string ⟨#[116]⟩, .slice none 0 0, .slice none 0 0, .int .i64 0, .int .i64 2, .string ⟨#[]⟩, .slice (some ⟨w.heap.size, 0, none⟩) 1 1, .slice none 0 0, .int .i64 0, .int .i64 3, .string ⟨#[]⟩, .slice none 0 0, .slice (some ⟨w.heap.size + 1, 0, none⟩) 3 3, .int .i64 0, .int .i64 4, .string ⟨#[]⟩, .slice none 0 0, .slice (some ⟨w.heap.size + 1 + 1, 0, none⟩) 2 2, .int .i64 0] 25)).alloc (.cells #[.int .i64 3, .string ⟨#[]⟩, .slice none 0 0, .slice (some ⟨w.heap.size + 1, 0, none⟩) 3 3, .int .i64 0] 25)) (w.heap.size + 1 + 1 + 1 + 1) 3 [] none 0 0 (some ⟨w.heap.size + 1, 0, none⟩) 3 3 0 := parts_box HZ3.out _ _
  obtain ⟨W5, hW5⟩ : ∃ W5, (W3.alloc (.cells #[.int .i64 1, .string ⟨#[116]⟩, .slice none 0 0, .slice none 0 0, .int .i64 0, .int .i64 2, .string ⟨#[]⟩, .slice (some ⟨w.heap.size, 0, none⟩) 1 1, .slice none 0 0, .int .i64 0, .int .i64 3, .string ⟨#[]⟩, .slice none 0 0, .slice (some ⟨w.heap.size + 1, 0, none⟩) 3 3, .int .i64 0, .int .i64 4, .string ⟨#[]⟩, .slice none 0 0, .slice (some ⟨w.heap.size + 1 + 1, 0, none⟩) 2 2, .int .i64 0] 25)).alloc (.cells #[.int .i64 3, .string ⟨#[]⟩, .slice none 0 0, .slice (some ⟨w.heap.size + 1, 0, none⟩) 3 3, .int .i64 0] 25) = W5 := ⟨_, rfl⟩
  rw [hW5] at hb5 hz5 hx5
  rw [hW5]
  have HB5 := Lib.hid hb5
  have HX5 := Lib.hid hx5
  clear hb5 hx5 hW5
  obtain ⟨c0, c1, c2, c3, c4⟩ := ItBox.at HX5.out
  go_wp2_with fail
  refine (HM1.out _ HB5.out).mono ?_
  rintro e w1 ⟨rfl, hb⟩
  have hx1 := ItBox.later HX5.out hb
  have HX1 := Lib.hid hx1
  have HB31 := Lib.hid (HB5.out.trans (hb.mono (by have := HZ3.out; omega)))
  have hz1 : w.heap.size + 1 + 1 + 1 + 1 < w1.heap.size := by have := hb.size; omega
  clear hb hx1 c0 c1 c2 c3 c4
  obtain ⟨c0, c1, c2, c3, c4⟩ := ItBox.at HX1.out
  obtain ⟨f0, f1, f2, f3, f4⟩ := ItBox.free HX1.out
  go_wp2_with fail
  have hbx := HB31.out.setCell (p := ⟨w.heap.size + 1 + 1 + 1 + 1, 1, none⟩) (by have := HZ3.out; simp; omega) (.string ⟨#[115]⟩)
  refine (HM2.out _ hbx).mono ?_
  rintro e w2 ⟨rfl, hb⟩
  have HB32 := Lib.hid (hbx.trans (hb.mono hbx.size))
  clear hb hbx c0 c1 c2 c3 c4 f0 f1 f2 f3 f4
  go_wp2_with (go_at_call 9; refine (awake_any _).mono ?_; rintro e w3 ⟨rfl, hb⟩; have HB33 := Lib.hid (HB32.out.trans (hb.mono HB32.out.size)); clear hb)
  go_ret
  exact ⟨rfl, HB3.out.trans (HB33.out.mono HB3.out.size)⟩

set_option maxRecDepth 100000 in
set_option maxHeartbeats 8000000 in
theorem parts_21 (kind which : Int) (w : World) (h0 : 0 ≤ kind) (h1 : kind ≤ 255) (h2 : 0 ≤ which) (h3 : which ≤ 255) (hk : kind % 4 = 2) (hw : which % 3 = 1) :
    Calls Try.prog 7 #[.int .u8 kind, .int .u8 which] w fun e W' => e = .returned (.bool true) ∧ Below w.heap.size w W' := by
  have hf : Fds (((w.alloc (.cells #[.string ⟨#[97]⟩, .string ⟨#[]⟩] 37)).alloc (.cells #[.string ⟨#[98]⟩, .string ⟨#[97]⟩, .string ⟨#[98]⟩] 9)).alloc (.cells #[.string ⟨#[97]⟩, .string ⟨#[98]⟩] 9)) (some ⟨w.heap.size, 0, none⟩) 1 [([97], [])] := ((fds_new w [([97], [])] (by decide) (by decide)).later ((Below.refl _ _).alloc (Nat.le_refl _) _)).later ((Below.refl _ _).alloc (Nat.le_refl _) _)
  have hl : Wds (((w.alloc (.cells #[.string ⟨#[97]⟩, .string ⟨#[]⟩] 37)).alloc (.cells #[.string ⟨#[98]⟩, .string ⟨#[97]⟩, .string ⟨#[98]⟩] 9)).alloc (.cells #[.string ⟨#[97]⟩, .string ⟨#[98]⟩] 9)) (some ⟨w.heap.size + 1, 0, none⟩) 3 [[98], [97], [98]] := by
    have := (wds_new (w.alloc (.cells #[.string ⟨#[97]⟩, .string ⟨#[]⟩] 37)) [[98], [97], [98]] (by decide) (by decide)).later ((Below.refl _ _).alloc (Nat.le_refl _) (.cells #[.string ⟨#[97]⟩, .string ⟨#[98]⟩] 9))
    rwa [World.size_alloc] at this
  have hm : Wds (((w.alloc (.cells #[.string ⟨#[97]⟩, .string ⟨#[]⟩] 37)).alloc (.cells #[.string ⟨#[98]⟩, .string ⟨#[97]⟩, .string ⟨#[98]⟩] 9)).alloc (.cells #[.string ⟨#[97]⟩, .string ⟨#[98]⟩] 9)) (some ⟨w.heap.size + 1 + 1, 0, none⟩) 2 [[97], [98]] := by
    have := wds_new ((w.alloc (.cells #[.string ⟨#[97]⟩, .string ⟨#[]⟩] 37)).alloc (.cells #[.string ⟨#[98]⟩, .string ⟨#[97]⟩, .string ⟨#[98]⟩] 9)) [[97], [98]] (by decide) (by decide)
    rwa [World.size_alloc, World.size_alloc] at this
  have hB3 : Below w.heap.size w (((w.alloc (.cells #[.string ⟨#[97]⟩, .string ⟨#[]⟩] 37)).alloc (.cells #[.string ⟨#[98]⟩, .string ⟨#[97]⟩, .string ⟨#[98]⟩] 9)).alloc (.cells #[.string ⟨#[97]⟩, .string ⟨#[98]⟩] 9)) := (((Below.refl _ w).alloc (Nat.le_refl _) _).alloc (by simp) _).alloc (by simp; omega) _
  have hz3 : (((w.alloc (.cells #[.string ⟨#[97]⟩, .string ⟨#[]⟩] 37)).alloc (.cells #[.string ⟨#[98]⟩, .string ⟨#[97]⟩, .string ⟨#[98]⟩] 9)).alloc (.cells #[.string ⟨#[97]⟩, .string ⟨#[98]⟩] 9)).heap.size = w.heap.size + 3 := by simp
  have hm1 := fun W (h : Below (((w.alloc (.cells #[.string ⟨#[97]⟩, .string ⟨#[]⟩] 37)).alloc (.cells #[.string ⟨#[98]⟩, .string ⟨#[97]⟩, .string ⟨#[98]⟩] 9)).alloc (.cells #[.string ⟨#[97]⟩, .string ⟨#[98]⟩] 9)).heap.size (((w.alloc (.cells #[.string ⟨#[97]⟩, .string ⟨#[]⟩] 37)).alloc (.cells #[.string ⟨#[98]⟩, .string ⟨#[97]⟩, .string ⟨#[98]⟩] 9)).alloc (.cells #[.string ⟨#[97]⟩, .string ⟨#[98]⟩] 9)) W) => may_any 3 0 [] none 0 [] (some ⟨w.heap.size + 1, 0, none⟩) 3 [[98], [97], [98]] W (fds_nil W) (hl.later h) (by decide) (by decide)
  rw [show It.mayB ⟨3, [], [], [[98], [97], [98]], 0⟩ = true by decide] at hm1
  have hm2 := fun W (B : Nat) (h : Below (((w.alloc (.cells #[.string ⟨#[97]⟩, .string ⟨#[]⟩] 37)).alloc (.cells #[.string ⟨#[98]⟩, .string ⟨#[97]⟩, .string ⟨#[98]⟩] 9)).alloc (.cells #[.string ⟨#[97]⟩, .string ⟨#[98]⟩] 9)).heap.size (((w.alloc (.cells #[.string ⟨#[97]⟩, .string ⟨#[]⟩] 37)).alloc (.cells #[.string ⟨#[98]⟩, .string ⟨#[97]⟩, .string ⟨#[98]⟩] 9)).alloc (.cells #[.string ⟨#[97]⟩, .string ⟨#[98]⟩] 9)) W) (hN : Fds W (some ⟨B, 0, none⟩) 1 [([120], [121])]) => may_any 3 0 [] (some ⟨B, 0, none⟩) 1 [([120], [121])] (some ⟨w.heap.size + 1, 0, none⟩) 3 [[98], [97], [98]] W hN (hl.later h) (by decide) (by decide)
  rw [show It.mayB ⟨3, [], [([120], [121])], [[98], [97], [98]], 0⟩ = false by decide] at hm2
  unfold itv at hm1 hm2
  simp only [List.length_nil, List.length_cons, Nat.zero_add, Nat.reduceAdd] at hm1 hm2
  obtain ⟨W3, hW3⟩ : ∃ W3, (((w.alloc (.cells #[.string ⟨#[97]⟩, .string ⟨#[]⟩] 37)).alloc (.cells #[.string ⟨#[98]⟩, .string ⟨#[97]⟩, .string ⟨#[98]⟩] 9)).alloc (.cells #[.string ⟨#[97]⟩, .string ⟨#[98]⟩] 9)) = W3 := ⟨_, rfl⟩
  rw [hW3] at hm1 hm2 hB3 hz3
  have HM1 := Lib.hid hm1
  have HM2 := Lib.hid hm2
  have HB3 := Lib.hid hB3
  have HW3 := Lib.hid hW3
  have HZ3 := Lib.hid hz3
  clear hm1 hm2 hB3 hf hl hm hW3 hz3
  go_enter Try.func7, Try.ntmps7
  go_upto_region 3 with (fail)
  rw [show (((w.alloc (.cells #[.string ⟨#[97]⟩, .string ⟨#[]⟩] 37)).alloc (.cells #[.string ⟨#[98]⟩, .string ⟨#[97]⟩, .string ⟨#[98]⟩] 9)).alloc (.cells #[.string ⟨#[97]⟩, .string ⟨#[98]⟩] 9)) = W3 from HW3.out]
  obtain ⟨hb5, hz5⟩ := parts_w5 HZ3.out (.cells #[.int .i64 1, .string ⟨#[116]⟩, .slice none 0 0, .slice none 0 0, .int .i64 0, .int .i64 2, .string ⟨#[]⟩, .slice (some ⟨w.heap.size, 0, none⟩) 1 1, .slice none 0 0, .int .i64 0, .int .i64 3, .string ⟨#[]⟩, .slice none 0 0, .slice (some ⟨w.heap.size + 1, 0, none⟩) 3 3, .int .i64 0, .int .i64 4, .string ⟨#[]⟩, .slice none 0 0, .slice (some ⟨w.heap.size + 1 + 1, 0, none⟩) 2 2, .int .i64 0] 25) (.cells #[.int .i64 3, .string ⟨#[]⟩, .slice none 0 0, .slice (some ⟨w.heap.size + 1, 0, none⟩) 3 3, .int .i64 0] 25)
  have hx5 : ItBox ((W3.alloc (.cells #[.int .i64 1, .string ⟨#[116]⟩, .slice none 0 0, .slice none 0 0, .int .i64 0, .int .i64 2, .string ⟨#[]⟩, .slice (some ⟨w.heap.size, 0, none⟩) 1 1, .slice none 0 0, .int .i64 0, .int .i64 3, .string ⟨#[]⟩, .slice none 0 0, .slice (some ⟨w.heap.size + 1, 0, none⟩) 3 3, .int .i64 0, .int .i64 4, .string ⟨#[]⟩, .slice none 0 0, .slice (some ⟨w.heap.size + 1 + 1, 0, none⟩) 2 2, .int .i64 0] 25)).alloc (.cells #[.int .i64 3, .string ⟨#[]⟩, .slice none 0 0, .slice (some ⟨w.heap.size + 1, 0, none⟩) 3 3, .int .i64 0] 25)) (w.heap.size + 1 + 1 + 1 + 1) 3 [] none 0 0 (some ⟨w.heap.size + 1, 0, none⟩) 3 3 0 := parts_box HZ3.out _ _
  obtain ⟨W5, hW5⟩ : ∃ W5, (W3.alloc (.cells #[.int .i64 1, .string ⟨#[116]⟩, .slice none 0 0, .slice none 0 0, .int .i64 0, .int .i64 2, .string ⟨#[]⟩, .slice (some ⟨w.heap.size, 0, none⟩) 1 1, .slice none 0 0, .int .i64 0, .int .i64 3, .string ⟨#[]⟩, .slice none 0 0, .slice (some ⟨w.heap.size + 1, 0, none⟩) 3 3, .int .i64 0, .int .i64 4, .string ⟨#[]⟩, .slice none 0 0, .slice (some ⟨w.heap.size + 1 + 1, 0, none⟩) 2 2, .int .i64 0] 25)).alloc (.cells #[.int .i64 3, .string ⟨#[]⟩, .slice none 0 0, .slice (some ⟨w.heap.size + 1, 0, none⟩) 3 3, .int .i64 0] 25) = W5 := ⟨_, rfl⟩
  rw [hW5] at hb5 hz5 hx5
  rw [hW5]
  have HB5 := Lib.hid hb5
  have HX5 := Lib.hid hx5
  clear hb5 hx5 hW5
  obtain ⟨c0, c1, c2, c3, c4⟩ := ItBox.at HX5.out
  go_wp2_with fail
  refine (HM1.out _ HB5.out).mono ?_
  rintro e w1 ⟨rfl, hb⟩
  have hx1 := ItBox.later HX5.out hb
  have HX1 := Lib.hid hx1
  have HB31 := Lib.hid (HB5.out.trans (hb.mono (by have := HZ3.out; omega)))
  have hz1 : w.heap.size + 1 + 1 + 1 + 1 < w1.heap.size := by have := hb.size; omega
  clear hb hx1 c0 c1 c2 c3 c4
  obtain ⟨c0, c1, c2, c3, c4⟩ := ItBox.at HX1.out
  obtain ⟨f0, f1, f2, f3, f4⟩ := ItBox.free HX1.out
  go_wp2_with fail
  have hn : Fds ((w1.setCell ⟨w.heap.size + 1 + 1 + 1 + 1, 2, none⟩ (.slice (some ⟨w1.heap.size, 0, none⟩) 1 1)).alloc (.cells #[.string ⟨#[120]⟩, .string ⟨#[121]⟩] 37)) (some ⟨w1.heap.size, 0, none⟩) 1 [([120], [121])] := by
    have := fds_new (w1.setCell ⟨w.heap.size + 1 + 1 + 1 + 1, 2, none⟩ (.slice (some ⟨w1.heap.size, 0, none⟩) 1 1)) [([120], [121])] (by decide) (by decide)
    rwa [World.size_setCell] at this
  have hbx := (HB31.out.setCell (p := ⟨w.heap.size + 1 + 1 + 1 + 1, 2, none⟩) (by have := HZ3.out; simp; omega) (.slice (some ⟨w1.heap.size, 0, none⟩) 1 1)).alloc (by have := HZ3.out; simp; omega) (.cells #[.string ⟨#[120]⟩, .string ⟨#[121]⟩] 37)
  refine (HM2.out _ _ hbx hn).mono ?_
  rintro e w2 ⟨rfl, hb⟩
  have HB32 := Lib.hid (hbx.trans (hb.mono hbx.size))
  clear hb hbx hn c0 c1 c2 c3 c4 f0 f1 f2 f3 f4
  go_wp2_with (go_at_call 9; refine (awake_any _).mono ?_; rintro e w3 ⟨rfl, hb⟩; have HB33 := Lib.hid (HB32.out.trans (hb.mono HB32.out.size)); clear hb)
  go_ret
  exact ⟨rfl, HB3.out.trans (HB33.out.mono HB3.out.size)⟩

set_option maxRecDepth 100000 in
set_option maxHeartbeats 8000000 in
theorem parts_22 (kind which : Int) (w : World) (h0 : 0 ≤ kind) (h1 : kind ≤ 255) (h2 : 0 ≤ which) (h3 : which ≤ 255) (hk : kind % 4 = 2) (hw : which % 3 = 2) :
    Calls Try.prog 7 #[.int .u8 kind, .int .u8 which] w fun e W' => e = .returned (.bool true) ∧ Below w.heap.size w W' := by
  have hf : Fds (((w.alloc (.cells #[.string ⟨#[97]⟩, .string ⟨#[]⟩] 37)).alloc (.cells #[.string ⟨#[98]⟩, .string ⟨#[97]⟩, .string ⟨#[98]⟩] 9)).alloc (.cells #[.string ⟨#[97]⟩, .string ⟨#[98]⟩] 9)) (some ⟨w.heap.size, 0, none⟩) 1 [([97], [])] := ((fds_new w [([97], [])] (by decide) (by decide)).later ((Below.refl _ _).alloc (Nat.le_refl _) _)).later ((Below.refl _ _).alloc (Nat.le_refl _) _)
  have hl : Wds (((w.alloc (.cells #[.string ⟨#[97]⟩, .string ⟨#[]⟩] 37)).alloc (.cells #[.string ⟨#[98]⟩, .string ⟨#[97]⟩, .string ⟨#[98]⟩] 9)).alloc (.cells #[.string ⟨#[97]⟩, .string ⟨#[98]⟩] 9)) (some ⟨w.heap.size + 1, 0, none⟩) 3 [[98], [97], [98]] := by
    have := (wds_new (w.alloc (.cells #[.string ⟨#[97]⟩, .string ⟨#[]⟩] 37)) [[98], [97], [98]] (by decide) (by decide)).later ((Below.refl _ _).alloc (Nat.le_refl _) (.cells #[.string ⟨#[97]⟩, .string ⟨#[98]⟩] 9))
    rwa [World.size_alloc] at this
  have hm : Wds (((w.alloc (.cells #[.string ⟨#[97]⟩, .string ⟨#[]⟩] 37)).alloc (.cells #[.string ⟨#[98]⟩, .string ⟨#[97]⟩, .string ⟨#[98]⟩] 9)).alloc (.cells #[.string ⟨#[97]⟩, .string ⟨#[98]⟩] 9)) (some ⟨w.heap.size + 1 + 1, 0, none⟩) 2 [[97], [98]] := by
    have := wds_new ((w.alloc (.cells #[.string ⟨#[97]⟩, .string ⟨#[]⟩] 37)).alloc (.cells #[.string ⟨#[98]⟩, .string ⟨#[97]⟩, .string ⟨#[98]⟩] 9)) [[97], [98]] (by decide) (by decide)
    rwa [World.size_alloc, World.size_alloc] at this
  have hB3 : Below w.heap.size w (((w.alloc (.cells #[.string ⟨#[97]⟩, .string ⟨#[]⟩] 37)).alloc (.cells #[.string ⟨#[98]⟩, .string ⟨#[97]⟩, .string ⟨#[98]⟩] 9)).alloc (.cells #[.string ⟨#[97]⟩, .string ⟨#[98]⟩] 9)) := (((Below.refl _ w).alloc (Nat.le_refl _) _).alloc (by simp) _).alloc (by simp; omega) _
  have hz3 : (((w.alloc (.cells #[.string ⟨#[97]⟩, .string ⟨#[]⟩] 37)).alloc (.cells #[.string ⟨#[98]⟩, .string ⟨#[97]⟩, .string ⟨#[98]⟩] 9)).alloc (.cells #[.string ⟨#[97]⟩, .string ⟨#[98]⟩] 9)).heap.size = w.heap.size + 3 := by simp
  have hm1 := fun W (h : Below (((w.alloc (.cells #[.string ⟨#[97]⟩, .string ⟨#[]⟩] 37)).alloc (.cells #[.string ⟨#[98]⟩, .string ⟨#[97]⟩, .string ⟨#[98]⟩] 9)).alloc (.cells #[.string ⟨#[97]⟩, .string ⟨#[98]⟩] 9)).heap.size (((w.alloc (.cells #[.string ⟨#[97]⟩, .string ⟨#[]⟩] 37)).alloc (.cells #[.string ⟨#[98]⟩, .string ⟨#[97]⟩, .string ⟨#[98]⟩] 9)).alloc (.cells #[.string ⟨#[97]⟩, .string ⟨#[98]⟩] 9)) W) => may_any 3 0 [] none 0 [] (some ⟨w.heap.size + 1, 0, none⟩) 3 [[98], [97], [98]] W (fds_nil W) (hl.later h) (by decide) (by decide)
  rw [show It.mayB ⟨3, [], [], [[98], [97], [98]], 0⟩ = true by decide] at hm1
  have hm2 := fun W (B : Nat) (h : Below (((w.alloc (.cells #[.string ⟨#[97]⟩, .string ⟨#[]⟩] 37)).alloc (.cells #[.string ⟨#[98]⟩, .string ⟨#[97]⟩, .string ⟨#[98]⟩] 9)).alloc (.cells #[.string ⟨#[97]⟩, .string ⟨#[98]⟩] 9)).heap.size (((w.alloc (.cells #[.string ⟨#[97]⟩, .string ⟨#[]⟩] 37)).alloc (.cells #[.string ⟨#[98]⟩, .string ⟨#[97]⟩, .string ⟨#[98]⟩] 9)).alloc (.cells #[.string ⟨#[97]⟩, .string ⟨#[98]⟩] 9)) W) (hN : Wds W (some ⟨B, 0, none⟩) 2 [[99], [100]]) => may_any 3 0 [] none 0 [] (some ⟨B, 0, none⟩) 2 [[99], [100]] W (fds_nil W) hN (by decide) (by decide)
  rw [show It.mayB ⟨3, [], [], [[99], [100]], 0⟩ = true by decide] at hm2
  unfold itv at hm1 hm2
  simp only [List.length_nil, List.length_cons, Nat.zero_add, Nat.reduceAdd] at hm1 hm2
  obtain ⟨W3, hW3⟩ : ∃ W3, (((w.alloc (.cells #[.string ⟨#[97]⟩, .string ⟨#[]⟩] 37)).alloc (.cells #[.string ⟨#[98]⟩, .string ⟨#[97]⟩, .string ⟨#[98]⟩] 9)).alloc (.cells #[.string ⟨#[97]⟩, .string ⟨#[98]⟩] 9)) = W3 := ⟨_, rfl⟩
  rw [hW3] at hm1 hm2 hB3 hz3
  have HM1 := Lib.hid hm1
  have HM2 := Lib.hid hm2
  have HB3 := Lib.hid hB3
  have HW3 := Lib.hid hW3
  have HZ3 := Lib.hid hz3
  clear hm1 hm2 hB3 hf hl hm hW3 hz3
  go_enter Try.func7, Try.ntmps7
  go_upto_region 3 with (fail)
  rw [show (((w.alloc (.cells #[.string ⟨#[97]⟩, .string ⟨#[]⟩] 37)).alloc (.cells #[.string ⟨#[98]⟩, .string ⟨#[97]⟩, .string ⟨#[98]⟩] 9)).alloc (.cells #[.string ⟨#[97]⟩, .string ⟨#[98]⟩] 9)) = W3 from HW3.out]
  obtain ⟨hb5, hz5⟩ := parts_w5 HZ3.out (.cells #[.int .i64 1, .string ⟨#[116]⟩, .slice none 0 0, .slice none 0 0, .int .i64 0, .int .i64 2, .string ⟨#[]⟩, .slice (some ⟨w.heap.size, 0, none⟩) 1 1, .slice none 0 0, .int .i64 0, .int .i64 3, .string ⟨#[]⟩, .slice none 0 0, .slice (some ⟨w.heap.size + 1, 0, none⟩) 3 3, .int .i64 0, .int .i64 4, .string ⟨#[]⟩, .slice none 0 0, .slice (some ⟨w.heap.size + 1 + 1, 0, none⟩) 2 2, .int .i64 0] 25) (.cells #[.int .i64 3, .string ⟨#[]⟩, .slice none 0 0, .slice (some ⟨w.heap.size + 1, 0, none⟩) 3 3, .int .i64 0] 25)
  have hx5 : ItBox ((W3.alloc (.cells #[.int .i64 1, .string ⟨#[116]⟩, .slice none 0 0, .slice none 0 0, .int .i64 0, .int .i64 2, .string ⟨#[]⟩, .slice (some ⟨w.heap.size, 0, none⟩) 1 1, .slice none 0 0, .int .i64 0, .int .i64 3, .string ⟨#[]⟩, .slice none 0 0, .slice (some ⟨w.heap.size + 1, 0, none⟩) 3 3, .int .i64 0, .int .i64 4, .string ⟨#[]⟩, .slice none 0 0, .slice (some ⟨w.heap.size + 1 + 1, 0, none⟩) 2 2, .int .i64 0] 25)).alloc (.cells #[.int .i64 3, .string ⟨#[]⟩, .slice none 0 0, .slice (some ⟨w.heap.size + 1, 0, none⟩) 3 3, .int .i64 0] 25)) (w.heap.size + 1 + 1 + 1 + 1) 3 [] none 0 0 (some ⟨w.heap.size + 1, 0, none⟩) 3 3 0 := parts_box HZ3.out _ _
  obtain ⟨W5, hW5⟩ : ∃ W5, (W3.alloc (.cells #[.int .i64 1, .string ⟨#[116]⟩, .slice none 0 0, .slice none 0 0, .int .i64 0, .int .i64 2, .string ⟨#[]⟩, .slice (some ⟨w.heap.size, 0, none⟩) 1 1, .slice none 0 0, .int .i64 0, .int .i64 3, .string ⟨#[]⟩, .slice none 0 0, .slice (some ⟨w.heap.size + 1, 0, none⟩) 3 3, .int .i64 0, .int .i64 4, .string ⟨#[]⟩, .slice none 0 0, .slice (some ⟨w.heap.size + 1 + 1, 0, none⟩) 2 2, .int .i64 0] 25)).alloc (.cells #[.int .i64 3, .string ⟨#[]⟩, .slice none 0 0, .slice (some ⟨w.heap.size + 1, 0, none⟩) 3 3, .int .i64 0] 25) = W5 := ⟨_, rfl⟩
  rw [hW5] at hb5 hz5 hx5
  rw [hW5]
  have HB5 := Lib.hid hb5
  have HX5 := Lib.hid hx5
  clear hb5 hx5 hW5
  obtain ⟨c0, c1, c2, c3, c4⟩ := ItBox.at HX5.out
  go_wp2_with fail
  refine (HM1.out _ HB5.out).mono ?_
  rintro e w1 ⟨rfl, hb⟩
  have hx1 := ItBox.later HX5.out hb
  have HX1 := Lib.hid hx1
  have HB31 := Lib.hid (HB5.out.trans (hb.mono (by have := HZ3.out; omega)))
  have hz1 : w.heap.size + 1 + 1 + 1 + 1 < w1.heap.size := by have := hb.size; omega
  clear hb hx1 c0 c1 c2 c3 c4
  obtain ⟨c0, c1, c2, c3, c4⟩ := ItBox.at HX1.out
  obtain ⟨f0, f1, f2, f3, f4⟩ := ItBox.free HX1.out
  go_wp2_with fail
  have hn : Wds ((w1.setCell ⟨w.heap.size + 1 + 1 + 1 + 1, 3, none⟩ (.slice (some ⟨w1.heap.size, 0, none⟩) 2 2)).alloc (.cells #[.string ⟨#[99]⟩, .string ⟨#[100]⟩] 9)) (some ⟨w1.heap.size, 0, none⟩) 2 [[99], [100]] := by
    have := wds_new (w1.setCell ⟨w.heap.size + 1 + 1 + 1 + 1, 3, none⟩ (.slice (some ⟨w1.heap.size, 0, none⟩) 2 2)) [[99], [100]] (by decide) (by decide)
    rwa [World.size_setCell] at this
  have hbx := (HB31.out.setCell (p := ⟨w.heap.size + 1 + 1 + 1 + 1, 3, none⟩) (by have := HZ3.out; simp; omega) (.slice (some ⟨w1.heap.size, 0, none⟩) 2 2)).alloc (by have := HZ3.out; simp; omega) (.cells #[.string ⟨#[99]⟩, .string ⟨#[100]⟩] 9)
  refine (HM2.out _ _ hbx hn).mono ?_
  rintro e w2 ⟨rfl, hb⟩
  have HB32 := Lib.hid (hbx.trans (hb.mono hbx.size))
  clear hb hbx hn c0 c1 c2 c3 c4 f0 f1 f2 f3 f4
  go_wp2_with (go_at_call 9; refine (awake_any _).mono ?_; rintro e w3 ⟨rfl, hb⟩; have HB33 := Lib.hid (HB32.out.trans (hb.mono HB32.out.size)); clear hb)
  go_ret
  exact ⟨rfl, HB3.out.trans (HB33.out.mono HB3.out.size)⟩

set_option maxRecDepth 100000 in
set_option maxHeartbeats 8000000 in
theorem parts_30 (kind which : Int) (w : World) (h0 : 0 ≤ kind) (h1 : kind ≤ 255) (h2 : 0 ≤ which) (h3 : which ≤ 255) (hk : kind % 4 = 3) (hw : which % 3 = 0) :
    Calls Try.prog 7 #[.int .u8 kind, .int .u8 which] w fun e W' => e = .returned (.bool true) ∧ Below w.heap.size w W' := by
  have hf : Fds (((w.alloc (.cells #[.string ⟨#[97]⟩, .string ⟨#[]⟩] 37)).alloc (.cells #[.string ⟨#[98]⟩, .string ⟨#[97]⟩, .string ⟨#[98]⟩] 9)).alloc (.cells #[.string ⟨#[97]⟩, .string ⟨#[98]⟩] 9)) (some ⟨w.heap.size, 0, none⟩) 1 [([97], [])] := ((fds_new w [([97], [])] (by decide) (by decide)).later ((Below.refl _ _).alloc (Nat.le_refl _) _)).later ((Below.refl _ _).alloc (Nat.le_refl _) _)
  have hl : Wds (((w.alloc (.cells #[.string ⟨#[97]⟩, .string ⟨#[]⟩] 37)).alloc (.cells #[.string ⟨#[98]⟩, .string ⟨#[97]⟩, .string ⟨#[98]⟩] 9)).alloc (.cells #[.string ⟨#[97]⟩, .string ⟨#[98]⟩] 9)) (some ⟨w.heap.size + 1, 0, none⟩) 3 [[98], [97], [98]] := by
    have := (wds_new (w.alloc (.cells #[.string ⟨#[97]⟩, .string ⟨#[]⟩] 37)) [[98], [97], [98]] (by decide) (by decide)).later ((Below.refl _ _).alloc (Nat.le_refl _) (.cells #[.string ⟨#[97]⟩, .string ⟨#[98]⟩] 9))
    rwa [World.size_alloc] at this
  have hm : Wds (((w.alloc (.cells #[.string ⟨#[97]⟩, .string ⟨#[]⟩] 37)).alloc (.cells #[.string ⟨#[98]⟩, .string ⟨#[97]⟩, .string ⟨#[98]⟩] 9)).alloc (.cells #[.string ⟨#[97]⟩, .string ⟨#[98]⟩] 9)) (some ⟨w.heap.size + 1 + 1, 0, none⟩) 2 [[97], [98]] := by
    have := wds_new ((w.alloc (.cells #[.string ⟨#[97]⟩, .string ⟨#[]⟩] 37)).alloc (.cells #[.string ⟨#[98]⟩, .string ⟨#[97]⟩, .string ⟨#[98]⟩] 9)) [[97], [98]] (by decide) (by decide)
    rwa [World.size_alloc, World.size_alloc] at this
  have hB3 : Below w.heap.size w (((w.alloc (.cells #[.string ⟨#[97]⟩, .string ⟨#[]⟩] 37)).alloc (.cells #[.string ⟨#[98]⟩, .string ⟨#[97]⟩, .string ⟨#[98]⟩] 9)).alloc (.cells #[.string ⟨#[97]⟩, .string ⟨#[98]⟩] 9)) := (((Below.refl _ w).alloc (Nat.le_refl _) _).alloc (by simp) _).alloc (by simp; omega) _
  have hz3 : (((w.alloc (.cells #[.string ⟨#[97]⟩, .string ⟨#[]⟩] 37)).alloc (.cells #[.string ⟨#[98]⟩, .string ⟨#[97]⟩, .string ⟨#[98]⟩] 9)).alloc (.cells #[.string ⟨#[97]⟩, .string ⟨#[98]⟩] 9)).heap.size = w.heap.size + 3 := by simp
  have hm1 := fun W (h : Below (((w.alloc (.cells #[.string ⟨#[97]⟩, .string ⟨#[]⟩] 37)).alloc (.cells #[.string ⟨#[98]⟩, .string ⟨#[97]⟩, .string ⟨#[98]⟩] 9)).alloc (.cells #[.string ⟨#[97]⟩, .string ⟨#[98]⟩] 9)).heap.size (((w.alloc (.cells #[.string ⟨#[97]⟩, .string ⟨#[]⟩] 37)).alloc (.cells #[.string ⟨#[98]⟩, .string ⟨#[97]⟩, .string ⟨#[98]⟩] 9)).alloc (.cells #[.string ⟨#[97]⟩, .string ⟨#[98]⟩] 9)) W) => may_any 4 0 [] none 0 [] (some ⟨w.heap.size + 1 + 1, 0, none⟩) 2 [[97], [98]] W (fds_nil W) (hm.later h) (by decide) (by decide)
  rw [show It.mayB ⟨4, [], [], [[97], [98]], 0⟩ = true by decide] at hm1
  have hm2 := fun W (h : Below (((w.alloc (.cells #[.string ⟨#[97]⟩, .string ⟨#[]⟩] 37)).alloc (.cells #[.string ⟨#[98]⟩, .string ⟨#[97]⟩, .string ⟨#[98]⟩] 9)).alloc (.cells #[.string ⟨#[97]⟩, .string ⟨#[98]⟩] 9)).heap.size (((w.alloc (.cells #[.string ⟨#[97]⟩, .string ⟨#[]⟩] 37)).alloc (.cells #[.string ⟨#[98]⟩, .string ⟨#[97]⟩, .string ⟨#[98]⟩] 9)).alloc (.cells #[.string ⟨#[97]⟩, .string ⟨#[98]⟩] 9)) W) => may_any 4 0 [115] none 0 [] (some ⟨w.heap.size + 1 + 1, 0, none⟩) 2 [[97], [98]] W (fds_nil W) (hm.later h) (by decide) (by decide)
  rw [show It.mayB ⟨4, [115], [], [[97], [98]], 0⟩ = false by decide] at hm2
  unfold itv at hm1 hm2
  simp only [List.length_nil, List.length_cons, Nat.zero_add, Nat.reduceAdd] at hm1 hm2
  obtain ⟨W3, hW3⟩ : ∃ W3, (((w.alloc (.cells #[.string ⟨#[97]⟩, .string ⟨#[]⟩] 37)).alloc (.cells #[.string ⟨#[98]⟩, .string ⟨#[97]⟩, .string ⟨#[98]⟩] 9)).alloc (.cells #[.string ⟨#[97]⟩, .string ⟨#[98]⟩] 9)) = W3 := ⟨_, rfl⟩
  rw [hW3] at hm1 hm2 hB3 hz3
  have HM1 := Lib.hid hm1
  have HM2 := Lib.hid hm2
  have HB3 := Lib.hid hB3
  have HW3 := Lib.hid hW3
  have HZ3 := Lib.hid hz3
  clear hm1 hm2 hB3 hf hl hm hW3 hz3
  go_enter Try.func7, Try.ntmps7
  go_upto_region 3 with (fail)
  rw [show (((w.alloc (.cells #[.string ⟨#[97]⟩, .string ⟨#[]⟩] 37)).alloc (.cells #[.string ⟨#[98]⟩, .string ⟨#[97]⟩, .string ⟨#[98]⟩] 9)).alloc (.cells #[.string ⟨#[97]⟩, .string ⟨#[98]⟩] 9)) = W3 from HW3.out]
  obtain ⟨hb5, hz5⟩ := parts_w5 HZ3.out (.cells #[.int .i64 1, .string ⟨#[116]⟩, .slice none 0 0, .slice none 0 0, .int .i64 0, .int .i64 2, .string ⟨#[]⟩, .slice (some ⟨w.heap.size, 0, none⟩) 1 1, .slice none 0 0, .int .i64 0, .int .i64 3, .string ⟨#[]⟩, .slice none 0 0, .slice (some ⟨w.heap.size + 1, 0, none⟩) 3 3, .int .i64 0, .int .i64 4, .string ⟨#[]⟩, .slice none 0 0, .slice (some ⟨w.heap.size + 1 + 1, 0, none⟩) 2 2, .int .i64 0] 25) (.cells #[.int .i64 4, .string ⟨#[]⟩, .slice none 0 0, .slice (some ⟨w.heap.size + 1 + 1, 0, none⟩) 2 2, .int .i64 0] 25)
  have hx5 : ItBox ((W3.alloc (.cells #[.int .i64 1, .string ⟨#[116]⟩, .slice none 0 0, .slice none 0 0, .int .i64 0, .int .i64 2, .string ⟨#[]⟩, .slice (some ⟨w.heap.size, 0, none⟩) 1 1, .slice none 0 0, .int .i64 0, .int .i64 3, .string ⟨#[]⟩, .slice none 0 0, .slice (some ⟨w.heap.size + 1, 0, none⟩) 3 3, .int .i64 0, .int .i64 4, .string ⟨#[]⟩, .slice none 0 0, .slice (some ⟨w.heap.size + 1 + 1, 0, none⟩) 2 2, .int .i64 0] 25)).alloc (.cells #[.int .i64 4, .string ⟨#[]⟩, .slice none 0 0, .slice (some ⟨w.heap.size + 1 + 1, 0, none⟩) 2 2, .int .i64 0] 25)) (w.heap.size + 1 + 1 + 1 + 1) 4 [] none 0 0 (some ⟨w.heap.size + 1 + 1, 0, none⟩) 2 2 0 := parts_box HZ3.out _ _
  obtain ⟨W5, hW5⟩ : ∃ W5, (W3.alloc (.cells #[.int .i64 1, .string ⟨#[116]⟩, .slice none 0 0, .slice none 0 0, .int .i64 0, .int .i64 2, .string ⟨#[]⟩, .slice (some ⟨w.heap.size, 0, none⟩) 1 1, .slice none 0 0, .int .i64 0, .int .i64 3, .string ⟨#[]⟩, .slice none 0 0, .slice (some ⟨w.heap.size + 1, 0, none⟩) 3 3, .int .i64 0, .int .i64 4, .string ⟨#[]⟩, .slice none 0 0, .slice (some ⟨w.heap.size + 1 + 1, 0, none⟩) 2 2, .int .i64 0] 25)).alloc (.cells #[.int .i64 4, .string ⟨#[]⟩, .slice none 0 0, .slice (some ⟨w.heap.size + 1 + 1, 0, none⟩) 2 2, .int .i64 0] 25) = W5 := ⟨_, rfl⟩
  rw [hW5] at hb5 hz5 hx5
  rw [hW5]
  have HB5 := Lib.hid hb5
  have HX5 := Lib.hid hx5
  clear hb5 hx5 hW5
  obtain ⟨c0, c1, c2, c3, c4⟩ := ItBox.at HX5.out
  go_wp2_with fail
  refine (HM1.out _ HB5.out).mono ?_
  rintro e w1 ⟨rfl, hb⟩
  have hx1 := ItBox.later HX5.out hb
  have HX1 := Lib.hid hx1
  have HB31 := Lib.hid (HB5.out.trans (hb.mono (by have := HZ3.out; omega)))
  have hz1 : w.heap.size + 1 + 1 + 1 + 1 < w1.heap.size := by have := hb.size; omega
  clear hb hx1 c0 c1 c2 c3 c4
  obtain ⟨c0, c1, c2, c3, c4⟩ := ItBox.at HX1.out
  obtain ⟨f0, f1, f2, f3, f4⟩ := ItBox.free HX1.out
  go_wp2_with fail
  have hbx := HB31.out.setCell (p := ⟨w.heap.size + 1 + 1 + 1 + 1, 1, none⟩) (by have := HZ3.out; simp; omega) (.string ⟨#[115]⟩)
  refine (HM2.out _ hbx).mono ?_
  rintro e w2 ⟨rfl, hb⟩
  have HB32 := Lib.hid (hbx.trans (hb.mono hbx.size))
  clear hb hbx c0 c1 c2 c3 c4 f0 f1 f2 f3 f4
  go_wp2_with (go_at_call 9; refine (awake_any _).mono ?_; rintro e w3 ⟨rfl, hb⟩; have HB33 := Lib.hid (HB32.out.trans (hb.mono HB32.out.size)); clear hb)
  go_ret
  exact ⟨rfl, HB3.out.trans (HB33.out.mono HB3.out.size)⟩

set_option maxRecDepth 100000 in
set_option maxHeartbeats 8000000 in
theorem parts_31 (kind which : Int) (w : World) (h0 : 0 ≤ kind) (h1 : kind ≤ 255) (h2 : 0 ≤ which) (h3 : which ≤ 255) (hk : kind % 4 = 3) (hw : which % 3 = 1) :
    Calls Try.prog 7 #[.int .u8 kind, .int .u8 which] w fun e W' => e = .returned (.bool true) ∧ Below w.heap.size w W' := by
  have hf : Fds (((w.alloc (.cells #[.string ⟨#[97]⟩, .string ⟨#[]⟩] 37)).alloc (.cells #[.string ⟨#[98]⟩, .string ⟨#[97]⟩, .string ⟨#[98]⟩] 9)).alloc (.cells #[.string ⟨#[97]⟩, .string ⟨#[98]⟩] 9)) (some ⟨w.heap.size, 0, none⟩) 1 [([97], [])] := ((fds_new w [([97], [])] (by decide) (by decide)).later ((Below.refl _ _).alloc (Nat.le_refl _) _)).later ((Below.refl _ _).alloc (Nat.le_refl _) _)
  have hl : Wds (((w.alloc (.cells #[.string ⟨#[97]⟩, .string ⟨#[]⟩] 37)).alloc (.cells #[.string ⟨#[98]⟩, .string ⟨#[97]⟩, .string ⟨#[98]⟩] 9)).alloc (.cells #[.string ⟨#[97]⟩, .string ⟨#[98]⟩] 9)) (some ⟨w.heap.size + 1, 0, none⟩) 3 [[98], [97], [98]] := by
    have := (wds_new (w.alloc (.cells #[.string ⟨#[97]⟩, .string ⟨#[]⟩] 37)) [[98], [97], [98]] (by decide) (by decide)).later ((Below.refl _ _).alloc (Nat.le_refl _) (.cells #[.string ⟨#[97]⟩, .string ⟨#[98]⟩] 9))
    rwa [World.size_alloc] at this
  have hm : Wds (((w.alloc (.cells #[.string ⟨#[97]⟩, .string ⟨#[]⟩] 37)).alloc (.cells #[.string ⟨#[98]⟩, .string ⟨#[97]⟩, .string ⟨#[98]⟩] 9)).alloc (.cells #[.string ⟨#[97]⟩, .string ⟨#[98]⟩] 9)) (some ⟨w.heap.size + 1 + 1, 0, none⟩) 2 [[97], [98]] := by
    have := wds_new ((w.alloc (.cells #[.string ⟨#[97]⟩, .string ⟨#[]⟩] 37)).alloc (.cells #[.string ⟨#[98]⟩, .string ⟨#[97]⟩, .string ⟨#[98]⟩] 9)) [[97], [98]] (by decide) (by decide)
    rwa [World.size_alloc, World.size_alloc] at this
  have hB3 : Below w.heap.size w (((w.alloc (.cells #[.string ⟨#[97]⟩, .string ⟨#[]⟩] 37)).alloc (.cells #[.string ⟨#[98]⟩, .string ⟨#[97]⟩, .string ⟨#[98]⟩] 9)).alloc (.cells #[.string ⟨#[97]⟩, .string ⟨#[98]⟩] 9)) := (((Below.refl _ w).alloc (Nat.le_refl _) _).alloc (by simp) _).alloc (by simp; omega) _
  have hz3 : (((w.alloc (.cells #[.string ⟨#[97]⟩, .string ⟨#[]⟩] 37)).alloc (.cells #[.string ⟨#[98]⟩, .string ⟨#[97]⟩, .string ⟨#[98]⟩] 9)).alloc (.cells #[.string ⟨#[97]⟩, .string ⟨#[98]⟩] 9)).heap.size = w.heap.size + 3 := by simp
  have hm1 := fun W (h : Below (((w.alloc (.cells #[.string ⟨#[97]⟩, .string ⟨#[]⟩] 37)).alloc (.cells #[.string ⟨#[98]⟩, .string ⟨#[97]⟩, .string ⟨#[98]⟩] 9)).alloc (.cells #[.string ⟨#[97]⟩, .string ⟨#[98]⟩] 9)).heap.size (((w.alloc (.cells #[.string ⟨#[97]⟩, .string ⟨#[]⟩] 37)).alloc (.cells #[.string ⟨#[98]⟩, .string ⟨#[97]⟩, .string ⟨#[98]⟩] 9)).alloc (.cells #[.string ⟨#[97]⟩, .string ⟨#[98]⟩] 9)) W) => may_any 4 0 [] none 0 [] (some ⟨w.heap.size + 1 + 1, 0, none⟩) 2 [[97], [98]] W (fds_nil W) (hm.later h) (by decide) (by decide)
  rw [show It.mayB ⟨4, [], [], [[97], [98]], 0⟩ = true by decide] at hm1
  have hm2 := fun W (B : Nat) (h : Below (((w.alloc (.cells #[.string ⟨#[97]⟩, .string ⟨#[]⟩] 37)).alloc (.cells #[.string ⟨#[98]⟩, .string ⟨#[97]⟩, .string ⟨#[98]⟩] 9)).alloc (.cells #[.string ⟨#[97]⟩, .string ⟨#[98]⟩] 9)).heap.size (((w.alloc (.cells #[.string ⟨#[97]⟩, .string ⟨#[]⟩] 37)).alloc (.cells #[.string ⟨#[98]⟩, .string ⟨#[97]⟩, .string ⟨#[98]⟩] 9)).alloc (.cells #[.string ⟨#[97]⟩, .string ⟨#[98]⟩] 9)) W) (hN : Fds W (some ⟨B, 0, none⟩) 1 [([120], [121])]) => may_any 4 0 [] (some ⟨B, 0, none⟩) 1 [([120], [121])] (some ⟨w.heap.size + 1 + 1, 0, none⟩) 2 [[97], [98]] W hN (hm.later h) (by decide) (by decide)
  rw [show It.mayB ⟨4, [], [([120], [121])], [[97], [98]], 0⟩ = false by decide] at hm2
  unfold itv at hm1 hm2
  simp only [List.length_nil, List.length_cons, Nat.zero_add, Nat.reduceAdd] at hm1 hm2
  obtain ⟨W3, hW3⟩ : ∃ W3, (((w.alloc (.cells #[.string ⟨#[97]⟩, .string ⟨#[]⟩] 37)).alloc (.cells #[.string ⟨#[98]⟩, .string ⟨#[97]⟩, .string ⟨#[98]⟩] 9)).alloc (.cells #[.string ⟨#[97]⟩, .string ⟨#[98]⟩] 9)) = W3 := ⟨_, rfl⟩
  rw [hW3] at hm1 hm2 hB3 hz3
  have HM1 := Lib.hid hm1
  have HM2 := Lib.hid hm2
  have HB3 := Lib.hid hB3
  have HW3 := Lib.hid hW3
  have HZ3 := Lib.hid hz3
  clear hm1 hm2 hB3 hf hl hm hW3 hz3
  go_enter Try.func7, Try.ntmps7
  go_upto_region 3 with (fail)
  rw [show (((w.alloc (.cells #[.string ⟨#[97]⟩, .string ⟨#[]⟩] 37)).alloc (.cells #[.string ⟨#[98]⟩, .string ⟨#[97]⟩, .string ⟨#[98]⟩] 9)).alloc (.cells #[.string ⟨#[97]⟩, .string ⟨#[98]⟩] 9)) = W3 from HW3.out]
  obtain ⟨hb5, hz5⟩ := parts_w5 HZ3.out (.cells #[.int .i64 1, .string ⟨#[116]⟩, .slice none 0 0, .slice none 0 0, .int .i64 0, .int .i64 2, .string ⟨#[]⟩, .slice (some ⟨w.heap.size, 0, none⟩) 1 1, .slice none 0 0, .int .i64 0, .int .i64 3, .string ⟨#[]⟩, .slice none 0 0, .slice (some ⟨w.heap.size + 1, 0, none⟩) 3 3, .int .i64 0, .int .i64 4, .string ⟨#[]⟩, .slice none 0 0, .slice (some ⟨w.heap.size + 1 + 1, 0, none⟩) 2 2, .int .i64 0] 25) (.cells #[.int .i64 4, .string ⟨#[]⟩, .slice none 0 0, .slice (some ⟨w.heap.size + 1 + 1, 0, none⟩) 2 2, .int .i64 0] 25)
  have hx5 : ItBox ((W3.alloc (.cells #[.int .i64 1, .string ⟨#[116]⟩, .slice none 0 0, .slice none 0 0, .int .i64 0, .int .i64 2, .string ⟨#[]⟩, .slice (some ⟨w.heap.size, 0, none⟩) 1 1, .slice none 0 0, .int .i64 0, .int .i64 3, .string ⟨#[]⟩, .slice none 0 0, .slice (some ⟨w.heap.size + 1, 0, none⟩) 3 3, .int .i64 0, .int .i64 4, .string ⟨#[]⟩, .slice none 0 0, .slice (some ⟨w.heap.size + 1 + 1, 0, none⟩) 2 2, .int .i64 0] 25)).alloc (.cells #[.int .i64 4, .string ⟨#[]⟩, .slice none 0 0, .slice (some ⟨w.heap.size + 1 + 1, 0, none⟩) 2 2, .int .i64 0] 25)) (w.heap.size + 1 + 1 + 1 + 1) 4 [] none 0 0 (some ⟨w.heap.size + 1 + 1, 0, none⟩) 2 2 0 := parts_box HZ3.out _ _
  obtain ⟨W5, hW5⟩ : ∃ W5, (W3.alloc (.cells #[.int .i64 1, .string ⟨#[116]⟩, .slice none 0 0, .slice none 0 0, .int .i64 0, .int .i64 2, .string ⟨#[]⟩, .slice (some ⟨w.heap.size, 0, none⟩) 1 1, .slice none 0 0, .int .i64 0, .int .i64 3, .string ⟨#[]⟩, .slice none 0 0, .slice (some ⟨w.heap.size + 1, 0, none⟩) 3 3, .int .i64 0, .int .i64 4, .string ⟨#[]⟩, .slice none 0 0, .slice (some ⟨w.heap.size + 1 + 1, 0, none⟩) 2 2, .int .i64 0] 25)).alloc (.cells #[.int .i64 4, .string ⟨#[]⟩, .slice none 0 0, .slice (some ⟨w.heap.size + 1 + 1, 0, none⟩) 2 2, .int .i64 0] 25) = W5 := ⟨_, rfl⟩
  rw [hW5] at hb5 hz5 hx5
  rw [hW5]
  have HB5 := Lib.hid hb5
  have HX5 := Lib.hid hx5
  clear hb5 hx5 hW5
  obtain ⟨c0, c1, c2, c3, c4⟩ := ItBox.at HX5.out
  go_wp2_with fail
  refine (HM1.out _ HB5.out).mono ?_
  rintro e w1 ⟨rfl, hb⟩
  have hx1 := ItBox.later HX5.out hb
  have HX1 := Lib.hid hx1
  have HB31 := Lib.hid (HB5.out.trans (hb.mono (by have := HZ3.out; omega)))
  have hz1 : w.heap.size + 1 + 1 + 1 + 1 < w1.heap.size := by have := hb.size; omega
  clear hb hx1 c0 c1 c2 c3 c4
  obtain ⟨c0, c1, c2, c3, c4⟩ := ItBox.at HX1.out
  obtain ⟨f0, f1, f2, f3, f4⟩ := ItBox.free HX1.out
  go_wp2_with fail
  have hn : Fds ((w1.setCell ⟨w.heap.size + 1 + 1 + 1 + 1, 2, none⟩ (.slice (some ⟨w1.heap.size, 0, none⟩) 1 1)).alloc (.cells #[.string ⟨#[120]⟩, .string ⟨#[121]⟩] 37)) (some ⟨w1.heap.size, 0, none⟩) 1 [([120], [121])] := by
    have := fds_new (w1.setCell ⟨w.heap.size + 1 + 1 + 1 + 1, 2, none⟩ (.slice (some ⟨w1.heap.size, 0, none⟩) 1 1)) [([120], [121])] (by decide) (by decide)
    rwa [World.size_setCell] at this
  have hbx := (HB31.out.setCell (p := ⟨w.heap.size + 1 + 1 + 1 + 1, 2, none⟩) (by have := HZ3.out; simp; omega) (.slice (some ⟨w1.heap.size, 0, none⟩) 1 1)).alloc (by have := HZ3.out; simp; omega) (.cells #[.string ⟨#[120]⟩, .string ⟨#[121]⟩] 37)
  refine (HM2.out _ _ hbx hn).mono ?_
  rintro e w2 ⟨rfl, hb⟩
  have HB32 := Lib.hid (hbx.trans (hb.mono hbx.size))
  clear hb hbx hn c0 c1 c2 c3 c4 f0 f1 f2 f3 f4
  go_wp2_with (go_at_call 9; refine (awake_any _).mono ?_; rintro e w3 ⟨rfl, hb⟩; have HB33 := Lib.hid (HB32.out.trans (hb.mono HB32.out.size)); clear hb)
  go_ret
  exact ⟨rfl, HB3.out.trans (HB33.out.mono HB3.out.size)⟩

set_option maxRecDepth 100000 in
set_option maxHeartbeats 8000000 in
theorem parts_32 (kind which : Int) (w : World) (h0 : 0 ≤ kind) (h1 : kind ≤ 255) (h2 : 0 ≤ which) (h3 : which ≤ 255) (hk : kind % 4 = 3) (hw : which % 3 = 2) :
    Calls Try.prog 7 #[.int .u8 kind, .int .u8 which] w fun e W' => e = .returned (.bool true) ∧ Below w.heap.size w W' := by
  have hf : Fds (((w.alloc (.cells #[.string ⟨#[97]⟩, .string ⟨#[]⟩] 37)).alloc (.cells #[.string ⟨#[98]⟩, .string ⟨#[97]⟩, .string ⟨#[98]⟩] 9)).alloc (.cells #[.string ⟨#[97]⟩, .string ⟨#[98]⟩] 9)) (some ⟨w.heap.size, 0, none⟩) 1 [([97], [])] := ((fds_new w [([97], [])] (by decide) (by decide)).later ((Below.refl _ _).alloc (Nat.le_refl _) _)).later ((Below.refl _ _).alloc (Nat.le_refl _) _)
  have hl : Wds (((w.alloc (.cells #[.string ⟨#[97]⟩, .string ⟨#[]⟩] 37)).alloc (.cells #[.string ⟨#[98]⟩, .string ⟨#[97]⟩, .string ⟨#[98]⟩] 9)).alloc (.cells #[.string ⟨#[97]⟩, .string ⟨#[98]⟩] 9)) (some ⟨w.heap.size + 1, 0, none⟩) 3 [[98], [97], [98]] := by
    have := (wds_new (w.alloc (.cells #[.string ⟨#[97]⟩, .string ⟨#[]⟩] 37)) [[98], [97], [98]] (by decide) (by decide)).later ((Below.refl _ _).alloc (Nat.le_refl _) (.cells #[.string ⟨#[97]⟩, .string ⟨#[98]⟩] 9))
    rwa [World.size_alloc] at this
  have hm : Wds (((w.alloc (.cells #[.string ⟨#[97]⟩, .string ⟨#[]⟩] 37)).alloc (.cells #[.string ⟨#[98]⟩, .string ⟨#[97]⟩, .string ⟨#[98]⟩] 9)).alloc (.cells #[.string ⟨#[97]⟩, .string ⟨#[98]⟩] 9)) (some ⟨w.heap.size + 1 + 1, 0, none⟩) 2 [[97], [98]] := by
    have := wds_new ((w.alloc (.cells #[.string ⟨#[97]⟩, .string ⟨#[]⟩] 37)).alloc (.cells #[.string ⟨#[98]⟩, .string ⟨#[97]⟩, .string ⟨#[98]⟩] 9)) [[97], [98]] (by decide) (by decide)
    rwa [World.size_alloc, World.size_alloc] at this
  have hB3 : Below w.heap.size w (((w.alloc (.cells #[.string ⟨#[97]⟩, .string ⟨#[]⟩] 37)).alloc (.cells #[.string ⟨#[98]⟩, .string ⟨#[97]⟩, .string ⟨#[98]⟩] 9)).alloc (.cells #[.string ⟨#[97]⟩, .string ⟨#[98]⟩] 9)) := (((Below.refl _ w).alloc (Nat.le_refl _) _).alloc (by simp) _).alloc (by simp; omega) _
  have hz3 : (((w.alloc (.cells #[.string ⟨#[97]⟩, .string ⟨#[]⟩] 37)).alloc (.cells #[.string ⟨#[98]⟩, .string ⟨#[97]⟩, .string ⟨#[98]⟩] 9)).alloc (.cells #[.string ⟨#[97]⟩, .string ⟨#[98]⟩] 9)).heap.size = w.heap.size + 3 := by simp
  have hm1 := fun W (h : Below (((w.alloc (.cells #[.string ⟨#[97]⟩, .string ⟨#[]⟩] 37)).alloc (.cells #[.string ⟨#[98]⟩, .string ⟨#[97]⟩, .string ⟨#[98]⟩] 9)).alloc (.cells #[.string ⟨#[97]⟩, .string ⟨#[98]⟩] 9)).heap.size (((w.alloc (.cells #[.string ⟨#[97]⟩, .string ⟨#[]⟩] 37)).alloc (.cells #[.string ⟨#[98]⟩, .string ⟨#[97]⟩, .string ⟨#[98]⟩] 9)).alloc (.cells #[.string ⟨#[97]⟩, .string ⟨#[98]⟩] 9)) W) => may_any 4 0 [] none 0 [] (some ⟨w.heap.size + 1 + 1, 0, none⟩) 2 [[97], [98]] W (fds_nil W) (hm.later h) (by decide) (by decide)
  rw [show It.mayB ⟨4, [], [], [[97], [98]], 0⟩ = true by decide] at hm1
  have hm2 := fun W (B : Nat) (h : Below (((w.alloc (.cells #[.string ⟨#[97]⟩, .string ⟨#[]⟩] 37)).alloc (.cells #[.string ⟨#[98]⟩, .string ⟨#[97]⟩, .string ⟨#[98]⟩] 9)).alloc (.cells #[.string ⟨#[97]⟩, .string ⟨#[98]⟩] 9)).heap.size (((w.alloc (.cells #[.string ⟨#[97]⟩, .string ⟨#[]⟩] 37)).alloc (.cells #[.string ⟨#[98]⟩, .string ⟨#[97]⟩, .string ⟨#[98]⟩] 9)).alloc (.cells #[.string ⟨#[97]⟩, .string ⟨#[98]⟩] 9)) W) (hN : Wds W (some ⟨B, 0, none⟩) 2 [[99], [100]]) => may_any 4 0 [] none 0 [] (some ⟨B, 0, none⟩) 2 [[99], [100]] W (fds_nil W) hN (by decide) (by decide)
  rw [show It.mayB ⟨4, [], [], [[99], [100]], 0⟩ = true by decide] at hm2
  unfold itv at hm1 hm2
  simp only [List.length_nil, List.length_cons, Nat.zero_add, Nat.reduceAdd] at hm1 hm2
  obtain ⟨W3, hW3⟩ : ∃ W3, (((w.alloc (.cells #[.string ⟨#[97]⟩, .string ⟨#[]⟩] 37)).alloc (.cells #[.string ⟨#[98]⟩, .string ⟨#[97]⟩, .string ⟨#[98]⟩] 9)).alloc (.cells #[.string ⟨#[97]⟩, .string ⟨#[98]⟩] 9)) = W3 := ⟨_, rfl⟩
  rw [hW3] at hm1 hm2 hB3 hz3
  have HM1 := Lib.hid hm1
  have HM2 := Lib.hid hm2
  have HB3 := Lib.hid hB3
  have HW3 := Lib.hid hW3
  have HZ3 := Lib.hid hz3
  clear hm1 hm2 hB3 hf hl hm hW3 hz3
  go_enter Try.func7, Try.ntmps7
  go_upto_region 3 with (fail)
  rw [show (((w.alloc (.cells #[.string ⟨#[97]⟩, .string ⟨#[]⟩] 37)).alloc (.cells #[.string ⟨#[98]⟩, .string ⟨#[97]⟩, .string ⟨#[98]⟩] 9)).alloc (.cells #[.string ⟨#[97]⟩, .string ⟨#[98]⟩] 9)) = W3 from HW3.out]
  obtain ⟨hb5, hz5⟩ := parts_w5 HZ3.out (.cells #[.int .i64 1, .string ⟨#[116]⟩, .slice none 0 0, .slice none 0 0, .int .i64 0, .int .i64 2, .string ⟨#[]⟩, .slice (some ⟨w.heap.size, 0, none⟩) 1 1, .slice none 0 0, .int .i64 0, .int .i64 3, .string ⟨#[]⟩, .slice none 0 0, .slice (some ⟨w.heap.size + 1, 0, none⟩) 3 3, .int .i64 0, .int .i64 4, .string ⟨#[]⟩, .slice none 0 0, .slice (some ⟨w.heap.size + 1 + 1, 0, none⟩) 2 2, .int .i64 0] 25) (.cells #[.int .i64 4, .string ⟨#[]⟩, .slice none 0 0, .slice (some ⟨w.heap.size + 1 + 1, 0, none⟩) 2 2, .int .i64 0] 25)
  have hx5 : ItBox ((W3.alloc (.cells #[.int .i64 1, .string ⟨#[116]⟩, .slice none 0 0, .slice none 0 0, .int .i64 0, .int .i64 2, .string ⟨#[]⟩, .slice (some ⟨w.heap.size, 0, none⟩) 1 1, .slice none 0 0, .int .i64 0, .int .i64 3, .string ⟨#[]⟩, .slice none 0 0, .slice (some ⟨w.heap.size + 1, 0, none⟩) 3 3, .int .i64 0, .int .i64 4, .string ⟨#[]⟩, .slice none 0 0, .slice (some ⟨w.heap.size + 1 + 1, 0, none⟩) 2 2, .int .i64 0] 25)).alloc (.cells #[.int .i64 4, .string ⟨#[]⟩, .slice none 0 0, .slice (some ⟨w.heap.size + 1 + 1, 0, none⟩) 2 2, .int .i64 0] 25)) (w.heap.size + 1 + 1 + 1 + 1) 4 [] none 0 0 (some ⟨w.heap.size + 1 + 1, 0, none⟩) 2 2 0 := parts_box HZ3.out _ _
  obtain ⟨W5, hW5⟩ : ∃ W5, (W3.alloc (.cells #[.int .i64 1, .string ⟨#[116]⟩, .slice none 0 0, .slice none 0 0, .int .i64 0, .int .i64 2, .string ⟨#[]⟩, .slice (some ⟨w.heap.size, 0, none⟩) 1 1, .slice none 0 0, .int .i64 0, .int .i64 3, .string ⟨#[]⟩, .slice none 0 0, .slice (some ⟨w.heap.size + 1, 0, none⟩) 3 3, .int .i64 0, .int .i64 4, .string ⟨#[]⟩, .slice none 0 0, .slice (some ⟨w.heap.size + 1 + 1, 0, none⟩) 2 2, .int .i64 0] 25)).alloc (.cells #[.int .i64 4, .string ⟨#[]⟩, .slice none 0 0, .slice (some ⟨w.heap.size + 1 + 1, 0, none⟩) 2 2, .int .i64 0] 25) = W5 := ⟨_, rfl⟩
  rw [hW5] at hb5 hz5 hx5
  rw [hW5]
  have HB5 := Lib.hid hb5
  have HX5 := Lib.hid hx5
  clear hb5 hx5 hW5
  obtain ⟨c0, c1, c2, c3, c4⟩ := ItBox.at HX5.out
  go_wp2_with fail
  refine (HM1.out _ HB5.out).mono ?_
  rintro e w1 ⟨rfl, hb⟩
  have hx1 := ItBox.later HX5.out hb
  have HX1 := Lib.hid hx1
  have HB31 := Lib.hid (HB5.out.trans (hb.mono (by have := HZ3.out; omega)))
  have hz1 : w.heap.size + 1 + 1 + 1 + 1 < w1.heap.size := by have := hb.size; omega
  clear hb hx1 c0 c1 c2 c3 c4
  obtain ⟨c0, c1, c2, c3, c4⟩ := ItBox.at HX1.out
  obtain ⟨f0, f1, f2, f3, f4⟩ := ItBox.free HX1.out
  go_wp2_with fail
  have hn : Wds ((w1.setCell ⟨w.heap.size + 1 + 1 + 1 + 1, 3, none⟩ (.slice (some ⟨w1.heap.size, 0, none⟩) 2 2)).alloc (.cells #[.string ⟨#[99]⟩, .string ⟨#[100]⟩] 9)) (some ⟨w1.heap.size, 0, none⟩) 2 [[99], [100]] := by
    have := wds_new (w1.setCell ⟨w.heap.size + 1 + 1 + 1 + 1, 3, none⟩ (.slice (some ⟨w1.heap.size, 0, none⟩) 2 2)) [[99], [100]] (by decide) (by decide)
    rwa [World.size_setCell] at this
  have hbx := (HB31.out.setCell (p := ⟨w.heap.size + 1 + 1 + 1 + 1, 3, none⟩) (by have := HZ3.out; simp; omega) (.slice (some ⟨w1.heap.size, 0, none⟩) 2 2)).alloc (by have := HZ3.out; simp; omega) (.cells #[.string ⟨#[99]⟩, .string ⟨#[100]⟩] 9)
  refine (HM2.out _ _ hbx hn).mono ?_
  rintro e w2 ⟨rfl, hb⟩
  have HB32 := Lib.hid (hbx.trans (hb.mono hbx.size))
  clear hb hbx hn c0 c1 c2 c3 c4 f0 f1 f2 f3 f4
  go_wp2_with (go_at_call 9; refine (awake_any _).mono ?_; rintro e w3 ⟨rfl, hb⟩; have HB33 := Lib.hid (HB32.out.trans (hb.mono HB32.out.size)); clear hb)
  go_ret
  exact ⟨rfl, HB3.out.trans (HB33.out.mono HB3.out.size)⟩
end Go.Proofs.Ytdnonginlbjcoaa
