/- The walk of the law RespDeep. -/
import Derived.Test.YtcplfengdenllaaDoorRpNest
import Derived.Test.YtcplfengdenllaaDoorRpSame
namespace Go.Proofs.YtcplfengdenllaaDoor
open Go.RowKit Go.Shelf
attribute [local go_sem] Oper.semAt_some
set_option linter.unusedVariables false
set_option linter.unusedSimpArgs false

/-- the numbers that the law makes of. -/
def deepB (j : Nat) : UInt8 := [0, 2, 3, 5].getD j 0

theorem deepB_flat : ∀ j, j < 4 → (deepB j).toNat % 6 ≠ 4 := by decide

theorem alloc_set4 {W : World} {b : Nat} (h : b < W.heap.size) {o : Obj} {x y z u : Value} : (set4 W b x y z u).alloc o = set4 (W.alloc o) b x y z u := by
  unfold set4
  rw [World.setCell_alloc_past _ _ _ _ h, World.setCell_alloc_past _ _ _ _ (by simpa using h), World.setCell_alloc_past _ _ _ _ (by simpa using h), World.setCell_alloc_past _ _ _ _ (by simpa using h)]

set_option maxRecDepth 100000 in
set_option maxHeartbeats 8000000 in
theorem respDeep_go (n kind : Int) (w : World) (n0 : 0 ≤ n) (n1 : n ≤ 255) (k0 : 0 ≤ kind) (k1 : kind ≤ 255) (henv : Env w) :
    Calls Tryd.prog 7 #[.int .u8 n, .int .u8 kind] w fun e W => e = .returned (.bool true) ∧ Below w.heap.size w W := by
  obtain ⟨k, hk⟩ : ∃ k : Nat, n % 14 = (k : Int) := ⟨(n % 14).toNat, by omega⟩
  obtain ⟨j, hj⟩ : ∃ j : Nat, kind % 4 = (j : Int) := ⟨(kind % 4).toNat, by omega⟩
  have hk14 : k < 14 := by omega
  have hj4 : j < 4 := by omega
  have hjI : (j : Int) < 4 := by omega
  have hj0 : (0 : Int) ≤ (j : Int) := by omega
  have tk : n.tmod 14 = (k : Int) := by rw [Int.tmod_eq_emod_of_nonneg n0]; exact hk
  have tj : kind.tmod 4 = (j : Int) := by rw [Int.tmod_eq_emod_of_nonneg k0]; exact hj
  have wk : IntKind.i64.wrap (k : Int) = (k : Int) := IntWalk.i64_in _ (by omega)
  have wj : IntKind.u8.wrap (j : Int) = (j : Int) := IntWalk.u8_in _ (by omega)
  have wn : IntKind.i64.wrap n = n := IntWalk.i64_in _ (by omega)
  have jT : ((j : Int)).toNat = j := by omega
  obtain ⟨wA, hwA⟩ : ∃ wA, w.alloc (.cells #[.int .u8 0, .int .u8 2, .int .u8 3, .int .u8 5] 5) = wA := ⟨_, rfl⟩
  have hxA := World.alloc_heap_new w (.cells #[.int .u8 0, .int .u8 2, .int .u8 3, .int .u8 5] 5)
  have hbA := (Below.refl w.heap.size w).alloc (Nat.le_refl _) (.cells #[.int .u8 0, .int .u8 2, .int .u8 3, .int .u8 5] 5)
  have hsA : (w.alloc (.cells #[.int .u8 0, .int .u8 2, .int .u8 3, .int .u8 5] 5)).heap.size = w.heap.size + 1 := by simp
  rw [hwA] at hxA hbA hsA
  obtain ⟨y, hy⟩ : ∃ y : Int, ((deepB j).toNat : Int) = y := ⟨_, rfl⟩
  have hcA : wA.cell? ⟨w.heap.size, j, none⟩ = some (.int .u8 y) := by
    rw [← hy]
    have : j = 0 ∨ j = 1 ∨ j = 2 ∨ j = 3 := by omega
    rcases this with rfl | rfl | rfl | rfl <;> simp [World.cell?, hxA, deepB]
  have hbt : Bt (fun _ => True) (wA.alloc (.cells #[.int .u8 y] 5)) (some ⟨w.heap.size + 1, 0, none⟩) 1 [deepB j] := by
    refine ⟨Nat.le_refl _, by decide, .inr ⟨_, _, rfl, trivial, by simp [hsA], fun i hi => ?_⟩⟩
    have : i = 0 := by simpa using hi
    subst this
    have hx := World.alloc_heap_new wA (.cells #[.int .u8 y] 5)
    rw [hsA] at hx
    simp [World.cell?, hx, hy]
  have hmk := make_any [97, 98] (by decide) 1 [deepB j] (some ⟨w.heap.size + 1, 0, none⟩) 1 _ (by simp) (by simp) hbt
  have hflat := fun lev => Rp.mk_flatH (f := 0) (b := deepB j) (t := []) (s := [97, 98]) (by decide) (deepB_flat j hj4) lev
  obtain ⟨R0, hR0⟩ : ∃ R0, Rp.mkF 1 [deepB j] [97, 98] = R0 := ⟨_, rfl⟩
  rw [hR0] at hmk
  simp only [Nat.zero_add, hR0] at hflat
  rw [← hwA] at hcA hmk
  have HF1 := Lib.hid (fun lev => (hflat lev).1)
  have HF2 := Lib.hid (fun lev => (hflat lev).2)
  have HMK := Lib.hid hmk
  have HWA := Lib.hid hwA
  have HBA := Lib.hid hbA
  have HSA := Lib.hid hsA
  have HENV := Lib.hid henv
  clear hwA hxA hbA hsA hbt hmk hR0 henv hflat hy
  go_enter Tryd.func7, Tryd.ntmps7
  go_upto_region 2 with (fail)
  go_wp2_with fail
  refine HMK.out.mono ?_
  rintro e w2 ⟨a2, c2, rfl, hrep, hb2⟩
  simp only [World.size_alloc] at hrep hb2
  unfold rv at hrep ⊢
  have hbw : Below w.heap.size w w2 := (((Below.refl w.heap.size w).alloc (Nat.le_refl _) _).alloc (by simp) _).trans (hb2.mono (by omega))
  obtain ⟨w3, hw3⟩ : ∃ w3, w2.alloc (.cells #[.int .i64 R0.k, .string ⟨R0.s.toArray⟩, .int .i64 R0.n, .slice a2 R0.l.length c2] 24) = w3 := ⟨_, rfl⟩
  have hx3 := World.alloc_heap_new w2 (.cells #[.int .i64 R0.k, .string ⟨R0.s.toArray⟩, .int .i64 R0.n, .slice a2 R0.l.length c2] 24)
  have hb3 : Below w2.heap.size w2 w3 := by rw [← hw3]; exact (Below.refl _ w2).alloc (Nat.le_refl _) _
  rw [hw3] at hx3
  have hbox : RBox w w2.heap.size (Rp.nest 0 R0) w3 := ⟨a2, c2, hx3, (hrep.mono fun k h1 h2 => ⟨by omega, by omega⟩).later hb3, hbw.trans (hb3.mono hbw.size)⟩
  have HBOX := Lib.hid hbox
  have HBW := Lib.hid hbw
  have HW3 := Lib.hid hw3
  clear hrep hb2 hbw hw3 hx3 hb3 hbox HMK hcA HBA HSA HWA
  go_upto_region 5 with (fail)
  rw [HW3.out]
  clear HW3
  go_loopw [7, 8] (fun sv i wr => ∃ m : Nat, m ≤ k ∧ sv = .string ⟨(Rp.stars m).toArray⟩ ∧ i = .int .i64 (m : Int) ∧ Hid (RBox w w2.heap.size (Rp.nest m R0) wr)) (fun _ i _ => k - (intOf i).toNat)
  case atStart => exact ⟨0, Nat.zero_le _, rfl, rfl, HBOX⟩
  case round =>
    obtain ⟨m, hm, rfl, rfl, HM⟩ := hrel
    by_cases hlt : m < k
    · obtain ⟨a, c, h1, h2, h3⟩ := HM.out
      obtain ⟨b0, b1, b2, b3, f0, f1, f2, f3⟩ := cells_four' h1
      have hltI : (m : Int) < (k : Int) := by omega
      have hRlt : w2.heap.size < wr.heap.size := (Array.getElem?_eq_some_iff.1 h1).1
      have ewn : IntKind.i64.wrap ((m : Int) + 1) = (m : Int) + 1 := IntWalk.i64_in _ (by omega)
      have hsl : (Rp.stars m).length ≤ 60 := by rw [Rp.stars_len]; omega
      have hsn : (⟨(Rp.stars m).toArray⟩ : ByteArray) ++ ⟨#[42, 49, 13, 10]⟩ = ⟨(Rp.stars (m + 1)).toArray⟩ := by
        apply ByteArray.ext
        simp [Rp.stars]
      have HST := Lib.hid (RBox.step HBW.out.size h1 h2 h3)
      clear h1 h2 h3
      rw [← alloc_set4 hRlt] at HST
      go_wp2
      go_roundw
      case rel => exact ⟨m + 1, by omega, rfl, by go_num, HST⟩
      case measure => simp [intOf]; omega
    · obtain rfl : m = k := by omega
      have HMAY := Lib.hid (Rp.nest_may HF2.out m)
      have HPT := Lib.hid (Rp.nest_part HF2.out m 0)
      have HLN := Lib.hid (Rp.nest_len HF1.out m 0)
      have hsl : (Rp.stars m).length ≤ 60 := by rw [Rp.stars_len]; omega
      have cX : ∀ W, (convert 9 28 (.string ⟨(Rp.stars m).toArray⟩)).run Tryd.prog W = .ok (.slice (some ⟨W.heap.size, 0, none⟩) (Rp.stars m).length (capS W (Rp.stars m))) (Lib.bytesWorld W 5 ⟨(Rp.stars m).toArray⟩) := fun W => sb_conv W (Rp.stars m)
      obtain ⟨E, hE⟩ : ∃ E, (if m ≤ 8 then (6 : Int) else 5) = E := ⟨_, rfl⟩
      have hge := fun W => get_err (Rp.stars m) (by omega) E (by
        rw [← hE]
        split
        · exact (Rp.stars_err 8 m).1 ‹_›
        · exact (Rp.stars_err 8 m).2 (by omega)) W
      have HGE := Lib.hid hge
      have HE := Lib.hid hE
      generalize Rp.nest m R0 = R at *
      generalize Rp.stars m = X at *
      clear hge hE HF1 HF2
      have HB0 := Lib.hid (let ⟨_, _, _, _, h⟩ := HM.out; h : Below w.heap.size w wr)
      go_wp2_with fail
      refine (HGE.out wr (HENV.out.below HB0.out HENV.out.size)).mono ?_
      rintro e w4 ⟨rfl, hb4⟩
      have HM4 := Lib.hid (HM.out.later hb4)
      clear hb4 HGE cX HM HB0
      go_upto_region 10 with (fail)
      obtain ⟨w5, hw5⟩ : ∃ w5, w4.alloc (.cells #[.int .i64 0, .string ⟨#[]⟩, .int .i64 0, .slice none 0 0] 24) = w5 := ⟨_, rfl⟩
      have hx5 := World.alloc_heap_new w4 (.cells #[.int .i64 0, .string ⟨#[]⟩, .int .i64 0, .slice none 0 0] 24)
      have hb5 : Below w4.heap.size w4 w5 := by rw [← hw5]; exact (Below.refl _ w4).alloc (Nat.le_refl _) _
      rw [hw5] at hx5 ⊢
      have HX5 := Lib.hid hx5
      have HM5 := Lib.hid (HM4.out.later hb5)
      clear hw5 hx5 hb5 HM4
      have hsz : (Rp.heads 0 R).length ≤ 1000000 := by have := HLN.out; omega
      have hca : AllQ CAQ (Rp.heads 0 R) := fun p hp => (HPT.out p hp).2.2.1
      have hrep : ∀ (W : World) (v : Value), Rep (fun k => w.heap.size ≤ k ∧ k ≠ w2.heap.size) W R v → Rep (fun k => k < W.heap.size) W R v := fun W v h => h.mono fun k _ h => h
      have HSZ := Lib.hid hsz
      have HCA := Lib.hid hca
      have HRP := Lib.hid hrep
      clear hsz hca hrep
      by_cases h8 : m ≤ 8
      · have h8I : ¬ (8 : Int) < (m : Int) := by omega
        have hE6 : E = 6 := by rw [← HE.out, if_pos h8]
        subst hE6
        have hmb := HMAY.out
        rw [decide_eq_true h8] at hmb
        have hpb : Rp.putB R = Rp.enc R := by unfold Rp.putB; rw [if_pos hmb]
        have hel : (Rp.enc R).length ≤ 1000000 := by
          have := Rp.enc_short (n := 20) hmb (fun p hp => ⟨(HPT.out p hp).1, (HPT.out p hp).2.1⟩) (by have := HLN.out; omega)
          omega
        have hgt : getO (Rp.enc R) 0 = .ok R [] := by
          have h := Rp.get_put hmb (fun p hp => (HPT.out p hp).1) []
          rw [List.append_nil] at h
          unfold getO
          rw [if_neg (by omega)]
          exact h
        have HMB := Lib.hid hmb
        have HPB := Lib.hid hpb
        have HGT := Lib.hid hgt
        clear hmb hpb hgt
        obtain ⟨a, c, h1, h2, h3⟩ := HM5.out
        obtain ⟨b0, b1, b2, b3⟩ := cells_four h1
        have hp := callsIn_wide.1 (put_any R a c w5 HSZ.out HCA.out (HENV.out.below h3 HENV.out.size) (HRP.out _ _ h2))
        unfold rv at hp
        rw [HPB.out] at hp
        have HP := Lib.hid hp
        clear hp h1 h2 h3
        go_wp2_with fail
        refine HP.out.mono ?_
        rintro e w6 ⟨v, rfl, hbuf, hb6⟩
        obtain ⟨a6, c6, rfl, hbt⟩ := hbuf.bt
        have HM6 := Lib.hid (HM5.out.later hb6)
        have HX6 := Lib.hid ((hb6.block _ (Array.getElem?_eq_some_iff.1 HX5.out).1).trans HX5.out)
        obtain ⟨-, -, -, -, h3⟩ := HM6.out
        have hgv := get_any (Rp.enc R) 0 a6 c6 w6 hel (by decide) (by decide) hbt (HENV.out.below h3 HENV.out.size)
        rw [HGT.out] at hgv
        have HGV := Lib.hid hgv
        clear hgv hbuf hbt hb6 HP b0 b1 b2 b3 h3
        go_wp2_with fail
        refine HGV.out.mono ?_
        rintro e w7 ⟨hb7, k7, s7, n7, a7, l7, c7, rfl, hrep7⟩
        have HM7 := Lib.hid (HM6.out.later hb7)
        have HX7 := Lib.hid ((hb7.block _ (Array.getElem?_eq_some_iff.1 HX6.out).1).trans HX6.out)
        have HR7 := Lib.hid hrep7
        clear hb7 hrep7 HGV
        go_upto_region 13 with (fail)
        obtain ⟨w8, hw8⟩ : ∃ w8, w7.alloc (.cells #[.int .i64 k7, .string s7, .int .i64 n7, .slice a7 l7 c7] 24) = w8 := ⟨_, rfl⟩
        have hx8 := World.alloc_heap_new w7 (.cells #[.int .i64 k7, .string s7, .int .i64 n7, .slice a7 l7 c7] 24)
        have hb8 : Below w7.heap.size w7 w8 := by rw [← hw8]; exact (Below.refl _ w7).alloc (Nat.le_refl _) _
        rw [hw8] at hx8 ⊢
        have HM8 := Lib.hid (HM7.out.later hb8)
        have HX8 := Lib.hid ((hb8.block _ (Array.getElem?_eq_some_iff.1 HX7.out).1).trans HX7.out)
        have HY8 := Lib.hid hx8
        have HR8 := Lib.hid (HR7.out.later hb8)
        clear hw8 hx8 hb8 HM7 HX7 HR7 HM6 HX6
        obtain ⟨a, c, h1, h2, h3⟩ := HM8.out
        obtain ⟨b0, b1, b2, b3⟩ := cells_four h1
        have hm := callsIn_wide.1 (may_any R a c w8 HSZ.out HCA.out (HRP.out _ _ h2))
        unfold rv at hm
        rw [HMB.out] at hm
        have HMM := Lib.hid hm
        clear hm h1 h2 h3
        go_wp2_with fail
        refine HMM.out.mono ?_
        rintro e w9 ⟨rfl, hb9⟩
        have HM9 := Lib.hid (HM8.out.later hb9)
        have hx9 := (hb9.block _ (Array.getElem?_eq_some_iff.1 HX8.out).1).trans HX8.out
        have hy9 := (hb9.block _ (Array.getElem?_eq_some_iff.1 HY8.out).1).trans HY8.out
        have HR9 := Lib.hid (HR8.out.later hb9)
        clear hb9 b0 b1 b2 b3 HMM
        obtain ⟨x0, x1, x2, x3⟩ := cells_four hx9
        obtain ⟨y0, y1, y2, y3⟩ := cells_four hy9
        obtain ⟨a, c, h1, h2, h3⟩ := HM9.out
        obtain ⟨b0, b1, b2, b3⟩ := cells_four h1
        obtain ⟨ar, cr, hv, hfr, hlr⟩ := HR9.out.parts
        have hr9 := HR9.out
        rw [hv] at hr9
        have hsame := refSame_any _ R R ar a cr c w9 (Nat.le_refl _) (hr9.mono fun _ _ _ => trivial) (h2.mono fun _ _ _ => trivial)
        rw [Rp.eqR_refl] at hsame
        unfold rv at hsame hv
        simp only [Value.agg.injEq, Array.mk.injEq, List.cons.injEq, and_true, Value.int.injEq, true_and, Value.string.injEq, Value.slice.injEq] at hv
        obtain ⟨rfl, rfl, rfl, rfl, rfl, rfl⟩ := hv
        have HSM := Lib.hid hsame
        have HB9 := Lib.hid h3
        clear hsame hx9 hy9 h1 h2 h3 hfr hlr hr9 HM5 HX5 HM8 HX8 HY8 HR8
        go_wp2_with fail
        refine (num_law _ _).mono ?_
        rintro e w10 ⟨rfl, rfl⟩
        go_wp2_with fail
        refine (num_law _ _).mono ?_
        rintro e w10 ⟨rfl, rfl⟩
        go_wp2_with fail
        refine HSM.out.mono ?_
        rintro e w10 ⟨rfl, hb10⟩
        have HB10 := Lib.hid (HB9.out.trans (hb10.mono HB9.out.size))
        clear hb10
        go_wp2_with fail
        refine (awake_any _ (HENV.out.below HB10.out HENV.out.size)).mono ?_
        rintro e w11 ⟨rfl, hb11⟩
        have HB11 := Lib.hid (HB10.out.trans (hb11.mono HB10.out.size))
        clear hb11
        go_wp2
        go_ret
        exact ⟨rfl, HB11.out⟩
      · have h8I : (8 : Int) < (m : Int) := by omega
        have hE5 : E = 5 := by rw [← HE.out, if_neg h8]
        subst hE5
        have hmb := HMAY.out
        rw [decide_eq_false h8] at hmb
        have hpb : Rp.putB R = [] := by unfold Rp.putB; rw [hmb]; rfl
        have HMB := Lib.hid hmb
        have HPB := Lib.hid hpb
        clear hmb hpb
        obtain ⟨a, c, h1, h2, h3⟩ := HM5.out
        obtain ⟨b0, b1, b2, b3⟩ := cells_four h1
        have hm := callsIn_wide.1 (may_any R a c w5 HSZ.out HCA.out (HRP.out _ _ h2))
        unfold rv at hm
        rw [HMB.out] at hm
        have HMM := Lib.hid hm
        clear hm h1 h2 h3
        go_wp2_with fail
        refine HMM.out.mono ?_
        rintro e w6 ⟨rfl, hb6⟩
        have HM6 := Lib.hid (HM5.out.later hb6)
        clear hb6 b0 b1 b2 b3
        obtain ⟨a, c, h1, h2, h3⟩ := HM6.out
        obtain ⟨b0, b1, b2, b3⟩ := cells_four h1
        have hp := callsIn_wide.1 (put_any R a c w6 HSZ.out HCA.out (HENV.out.below h3 HENV.out.size) (HRP.out _ _ h2))
        unfold rv at hp
        rw [HPB.out] at hp
        have HP := Lib.hid hp
        clear hp h1 h2 h3
        go_wp2_with fail
        refine HP.out.mono ?_
        rintro e w7 ⟨v, rfl, hbuf, hb7⟩
        obtain ⟨a7, c7, rfl, -⟩ := hbuf.bt
        simp only [List.length_nil]
        obtain ⟨-, -, -, -, h3⟩ := HM6.out.later hb7
        have HB7 := Lib.hid h3
        clear h3 hb7 hbuf b0 b1 b2 b3
        go_wp2_with fail
        refine (num_law _ _).mono ?_
        rintro e w8 ⟨rfl, rfl⟩
        go_wp2_with fail
        refine (awake_any _ (HENV.out.below HB7.out HENV.out.size)).mono ?_
        rintro e w8 ⟨rfl, hb8⟩
        have HB8 := Lib.hid (HB7.out.trans (hb8.mono HB7.out.size))
        clear hb8
        go_wp2
        go_ret
        exact ⟨rfl, HB8.out⟩
end Go.Proofs.YtcplfengdenllaaDoor
