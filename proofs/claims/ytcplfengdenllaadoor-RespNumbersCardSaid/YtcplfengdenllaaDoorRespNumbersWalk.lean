/- The walk of the law RespNumbers. -/
import Derived.Test.YtcplfengdenllaaDoorRpAwake
import Derived.Test.YtcplfengdenllaaDoorRpNumPlain
import Derived.Test.YtcplfengdenllaaDoorDig
namespace Go.Proofs.YtcplfengdenllaaDoor
open Go.RowKit Go.Shelf
attribute [local go_sem] Oper.semAt_some
set_option linter.unusedVariables false
set_option linter.unusedSimpArgs false

theorem str_app3 (l m : List UInt8) : (⟨l.toArray⟩ : ByteArray) ++ ⟨m.toArray⟩ = ⟨(l ++ m).toArray⟩ := by
  apply ByteArray.ext
  simp

/-- Get of the bytes of a text that is none. -/
theorem get_bad5 (X : List UInt8) (hl : X.length ≤ 1000) (h : Rp.reply5 X) (W : World) (henv : Env W) :
    Calls Tryd.prog 18 #[.slice (some ⟨W.heap.size, 0, none⟩) X.length (capS W X), .int .i64 0] (Lib.bytesWorld W 5 ⟨X.toArray⟩) fun e W' => e = .returned (.tuple #[.agg #[.int .i64 0, .string ⟨#[]⟩, .int .i64 0, .slice none 0 0], .int .i64 0, .int .i64 5]) ∧ Below W.heap.size W W' := by
  have hb := Lib.bytesWorld_below W 5 ⟨X.toArray⟩
  have hg := get_any X 0 _ _ _ (by omega) (by decide) (by decide) (sb_bt W X (by omega) ⟨grownCap_ge _ _ _ _, by
    have := grownCap_le_maxLen W X.length 0 5 (by unfold maxLen; omega)
    unfold capS
    unfold maxLen at this
    omega⟩) (henv.later hb)
  have e : getO X 0 = .err 5 := by
    unfold getO
    rw [if_neg (by omega)]
    exact h
  rw [e] at hg
  refine hg.mono ?_
  rintro e W' ⟨hb2, _, rfl⟩
  exact ⟨rfl, hb.trans (hb2.mono hb.size)⟩

/-- Get of a number's bytes. -/
theorem get_num (n : Int) (n0 : -9223372036854775808 ≤ n) (n1 : n ≤ 9223372036854775807) (S : List UInt8) (hS : Rp.enc (.mk 3 [] n []) = S) (hl : S.length ≤ 1000) (W : World) (henv : Env W) :
    Calls Tryd.prog 18 #[.slice (some ⟨W.heap.size, 0, none⟩) S.length (capS W S), .int .i64 0] (Lib.bytesWorld W 5 ⟨S.toArray⟩) fun e W' => ∃ a cap, e = .returned (.tuple #[.agg #[.int .i64 3, .string ⟨#[]⟩, .int .i64 n, .slice a 0 cap], .int .i64 S.length, .int .i64 0]) ∧ Below W.heap.size W W' := by
  have hb := Lib.bytesWorld_below W 5 ⟨S.toArray⟩
  have hg := get_any S 0 _ _ _ (by omega) (by decide) (by decide) (sb_bt W S (by omega) ⟨grownCap_ge _ _ _ _, by
    have := grownCap_le_maxLen W S.length 0 5 (by unfold maxLen; omega)
    unfold capS
    unfold maxLen at this
    omega⟩) (henv.later hb)
  have e : getO S 0 = .ok (.mk 3 [] n []) [] := by
    unfold getO
    rw [if_neg (by omega)]
    have := Rp.get_put (r := .mk 3 [] n []) (by rfl) (fun p hp => by
      simp [Rp.heads, Rp.headsL] at hp
      subst hp
      exact ⟨n0, n1⟩) []
    rw [List.append_nil, hS] at this
    exact this
  rw [e] at hg
  refine hg.mono ?_
  rintro e W' ⟨hb2, k, s, m, a, l, cap, rfl, hrep⟩
  obtain ⟨a', cap', hv, _⟩ := hrep.parts
  unfold rv at hv
  simp only [Rp.R.k, Rp.R.s, Rp.R.n, Rp.R.l, Value.agg.injEq, Array.mk.injEq, List.cons.injEq, and_true, Value.int.injEq, true_and, Value.string.injEq, Value.slice.injEq, List.length_nil] at hv
  obtain ⟨rfl, rfl, rfl, rfl, rfl, rfl⟩ := hv
  exact ⟨a, cap, by simp, hb.trans (hb2.mono hb.size)⟩

/-- Put of a number. -/
theorem put_num (n : Int) (n0 : -9223372036854775808 ≤ n) (n1 : n ≤ 9223372036854775807) (S : List UInt8) (hS : Rp.enc (.mk 3 [] n []) = S) (w : World) (henv : Env w) : Calls Tryd.prog 14 #[.agg #[.int .i64 3, .string ⟨#[]⟩, .int .i64 n, .slice none 0 0]] w fun e W => ∃ a cap, e = .returned (.slice a S.length cap) ∧ (convert 28 9 (.slice a S.length cap)).run Tryd.prog W = .ok (.string ⟨S.toArray⟩) W ∧ Below w.heap.size w W := by
  have h := callsIn_wide.1 (put_any (.mk 3 [] n []) none 0 w (by simp [Rp.heads, Rp.headsL]) (fun p hp hk => by
    simp [Rp.heads, Rp.headsL] at hp
    subst hp
    rcases hk with hk | hk <;> cases hk) henv (Rep.intro (by unfold Fit; simp; omega) (.inl rfl)))
  have e : Rp.putB (.mk 3 [] n []) = S := by
    unfold Rp.putB
    rw [if_pos (by rfl), hS]
  rw [e] at h
  refine Calls.mono (R := fun e W' => ∃ v, e = .returned v ∧ Buf w.heap.size S v W' ∧ Below w.heap.size w W') h ?_
  rintro e W ⟨v, rfl, hb, hl⟩
  have hc := hb.conv
  obtain ⟨a, cap, rfl, _⟩ := hb.bt
  exact ⟨a, cap, rfl, hc, hl⟩

set_option maxRecDepth 100000 in
set_option maxHeartbeats 16000000 in
theorem respNumbers_go (n how : Int) (w : World) (henv : Env w) (n0 : -9223372036854775808 ≤ n) (n1 : n ≤ 9223372036854775807) (h0 : 0 ≤ how) (h1 : how ≤ 255) :
    Calls Tryd.prog 9 #[.int .i64 n, .int .u8 how] w fun e W => e = .returned (.bool true) ∧ Below w.heap.size w W := by
  obtain ⟨mx, hmx⟩ : ∃ mx, max 2 n = mx := ⟨_, rfl⟩
  have hd := fun W => digits_any n W n0 n1
  have hdm := fun W => digits_any mx W (by omega) (by omega)
  have hl := Rp.dec20 n0 n1
  have hlm := Rp.dec20 (n := mx) (by omega) (by omega)
  have hq0 := Rp.bad0 n
  have hq2 := Rp.bad2 n n0 n1
  have hq9 := Rp.bad9 n n0 n1
  have hq10 := Rp.bad10 mx (by omega) (by omega)
  have hS0 : Rp.enc (.mk 3 [] n []) = (58 :: Dig.dec n) ++ [13, 10] := by simp [Rp.enc, Rp.encL, Rp.own, Rp.crlf]
  have hm2 : (2 : Int) ≤ mx := by omega
  have hm9 : mx ≤ 9223372036854775807 := by omega
  generalize Dig.dec n = D at *
  generalize Dig.dec mx = M at *
  obtain ⟨T0, hT0⟩ : ∃ T0, 58 :: D = T0 := ⟨_, rfl⟩
  obtain ⟨T1, hT1⟩ : ∃ T1, 58 :: 48 :: D = T1 := ⟨_, rfl⟩
  obtain ⟨T2, hT2⟩ : ∃ T2, 58 :: 43 :: D = T2 := ⟨_, rfl⟩
  obtain ⟨T3, hT3⟩ : ∃ T3, 36 :: 45 :: M = T3 := ⟨_, rfl⟩
  obtain ⟨S0, hS⟩ : ∃ S0, T0 ++ [13, 10] = S0 := ⟨_, rfl⟩
  obtain ⟨X0, hX0⟩ : ∃ X0, T1 ++ [13, 10] = X0 := ⟨_, rfl⟩
  obtain ⟨X1, hX1⟩ : ∃ X1, T2 ++ [13, 10] = X1 := ⟨_, rfl⟩
  obtain ⟨X2, hX2⟩ : ∃ X2, T0 ++ [32, 13, 10] = X2 := ⟨_, rfl⟩
  obtain ⟨X9, hX9⟩ : ∃ X9, T0 ++ [10] = X9 := ⟨_, rfl⟩
  obtain ⟨X10, hX10⟩ : ∃ X10, T3 ++ [13, 10] = X10 := ⟨_, rfl⟩
  have u0 : (⟨#[58]⟩ : ByteArray) ++ ⟨D.toArray⟩ = ⟨T0.toArray⟩ := by rw [← hT0]; exact str_app3 [58] D
  have u1 : (⟨#[58, 48]⟩ : ByteArray) ++ ⟨D.toArray⟩ = ⟨T1.toArray⟩ := by rw [← hT1]; exact str_app3 [58, 48] D
  have u2 : (⟨#[58, 43]⟩ : ByteArray) ++ ⟨D.toArray⟩ = ⟨T2.toArray⟩ := by rw [← hT2]; exact str_app3 [58, 43] D
  have u3 : (⟨#[36, 45]⟩ : ByteArray) ++ ⟨M.toArray⟩ = ⟨T3.toArray⟩ := by rw [← hT3]; exact str_app3 [36, 45] M
  have v0 : (⟨T0.toArray⟩ : ByteArray) ++ ⟨#[13, 10]⟩ = ⟨S0.toArray⟩ := by rw [← hS]; exact str_app3 T0 [13, 10]
  have v1 : (⟨T1.toArray⟩ : ByteArray) ++ ⟨#[13, 10]⟩ = ⟨X0.toArray⟩ := by rw [← hX0]; exact str_app3 T1 [13, 10]
  have v2 : (⟨T2.toArray⟩ : ByteArray) ++ ⟨#[13, 10]⟩ = ⟨X1.toArray⟩ := by rw [← hX1]; exact str_app3 T2 [13, 10]
  have v3 : (⟨T0.toArray⟩ : ByteArray) ++ ⟨#[32, 13, 10]⟩ = ⟨X2.toArray⟩ := by rw [← hX2]; exact str_app3 T0 [32, 13, 10]
  have v4 : (⟨T0.toArray⟩ : ByteArray) ++ ⟨#[10]⟩ = ⟨X9.toArray⟩ := by rw [← hX9]; exact str_app3 T0 [10]
  have v5 : (⟨T3.toArray⟩ : ByteArray) ++ ⟨#[13, 10]⟩ = ⟨X10.toArray⟩ := by rw [← hX10]; exact str_app3 T3 [13, 10]
  have y0 : Rp.reply5 X0 := by rw [← hX0, ← hT1]; exact hq0
  have y1 : Rp.reply5 X1 := by rw [← hX1, ← hT2]; exact Rp.bad1 _
  have y2 : Rp.reply5 X2 := by rw [← hX2, ← hT0]; exact hq2
  have y9 : Rp.reply5 X9 := by rw [← hX9, ← hT0]; exact hq9
  have y10 : Rp.reply5 X10 := by rw [← hX10, ← hT3]; exact hq10
  rw [hT0, hS] at hS0
  have lD : D.length ≤ 20 := hl
  have lM : M.length ≤ 20 := hlm
  have l0 : T0.length ≤ 30 := by rw [← hT0]; simp; omega
  have l1 : T1.length ≤ 30 := by rw [← hT1]; simp; omega
  have l2 : T2.length ≤ 30 := by rw [← hT2]; simp; omega
  have l3 : T3.length ≤ 30 := by rw [← hT3]; simp; omega
  have lS : S0.length ≤ 40 := by rw [← hS]; simp; omega
  have lX0 : X0.length ≤ 40 := by rw [← hX0]; simp; omega
  have lX1 : X1.length ≤ 40 := by rw [← hX1]; simp; omega
  have lX2 : X2.length ≤ 40 := by rw [← hX2]; simp; omega
  have lX9 : X9.length ≤ 40 := by rw [← hX9]; simp; omega
  have lX10 : X10.length ≤ 40 := by rw [← hX10]; simp; omega
  have HY := Lib.hid (And.intro y0 (And.intro y1 (And.intro y2 (And.intro y9 y10))))
  have HGN := Lib.hid (fun W hE => get_num n n0 n1 S0 hS0 (by omega) W hE)
  have HPN := Lib.hid (fun W hE => put_num n n0 n1 S0 hS0 W hE)
  have HD := Lib.hid hd
  have HDM := Lib.hid hdm
  have HENV := Lib.hid henv
  have cS := fun W => sb_conv W S0
  clear hd hdm hq0 hq2 hq9 hq10 hS0 hT0 hT1 hT2 hT3 hS hX0 hX1 hX2 hX9 hX10 y0 y1 y2 y9 y10 hl hlm henv
  have hk : how % 12 = 0 ∨ how % 12 = 1 ∨ how % 12 = 2 ∨ how % 12 = 3 ∨ how % 12 = 4 ∨ how % 12 = 5 ∨ how % 12 = 6 ∨ how % 12 = 7 ∨ how % 12 = 8 ∨ how % 12 = 9 ∨ how % 12 = 10 ∨ how % 12 = 11 := by omega
  have hkt : how.tmod 12 = how % 12 := Int.tmod_eq_emod_of_nonneg h0
  rcases hk with hk | hk | hk | hk | hk | hk | hk | hk | hk | hk | hk | hk
  · rw [hk] at hkt
    have HGB := Lib.hid (fun W hE => get_bad5 X0 (by omega) HY.out.1 W hE)
    have cX : ∀ W, (convert 9 28 (.string ⟨X0.toArray⟩)).run Tryd.prog W = .ok (.slice (some ⟨W.heap.size, 0, none⟩) X0.length (capS W X0)) (Lib.bytesWorld W 5 ⟨X0.toArray⟩) := fun W => sb_conv W X0
    clear hk
    go_enter Tryd.func9, Tryd.ntmps9
    go_wp2_with fail
    refine (HD.out _).mono ?_
    rintro e w1 ⟨rfl, hb⟩
    have HB1 := Lib.hid hb
    clear hb
    go_wp2_with fail
    refine (HGN.out w1 (HENV.out.later HB1.out)).mono ?_
    rintro e w2 ⟨a2, c2, rfl, hb⟩
    have HB2 := Lib.hid (HB1.out.trans (hb.mono HB1.out.size))
    clear hb cS
    go_upto_region 3 with (fail)
    obtain ⟨w3, hw3⟩ : ∃ w3, w2.alloc (.cells #[.int .i64 3, .string ⟨#[]⟩, .int .i64 n, .slice a2 0 c2] 24) = w3 := ⟨_, rfl⟩
    have hx := World.alloc_heap_new w2 (.cells #[.int .i64 3, .string ⟨#[]⟩, .int .i64 n, .slice a2 0 c2] 24)
    have hb : Below w2.heap.size w2 w3 := by rw [← hw3]; exact (Below.refl _ w2).alloc (Nat.le_refl _) _
    rw [hw3] at hx ⊢
    have HX3 := Lib.hid hx
    have HB3 := Lib.hid (HB2.out.trans (hb.mono HB2.out.size))
    clear hb hx hw3
    go_wp2_with fail
    refine (HD.out _).mono ?_
    rintro e w4 ⟨rfl, hb⟩
    have HX4 := Lib.hid ((hb.block _ (Array.getElem?_eq_some_iff.1 HX3.out).1).trans HX3.out)
    have HB4 := Lib.hid (HB3.out.trans (hb.mono HB3.out.size))
    clear hb
    go_wp2_with fail
    refine (HD.out _).mono ?_
    rintro e w5 ⟨rfl, hb⟩
    have HX5 := Lib.hid ((hb.block _ (Array.getElem?_eq_some_iff.1 HX4.out).1).trans HX4.out)
    have HB5 := Lib.hid (HB4.out.trans (hb.mono HB4.out.size))
    clear hb
    go_wp2_with fail
    refine (HD.out _).mono ?_
    rintro e w6 ⟨rfl, hb⟩
    have HX6 := Lib.hid ((hb.block _ (Array.getElem?_eq_some_iff.1 HX5.out).1).trans HX5.out)
    have HB6 := Lib.hid (HB5.out.trans (hb.mono HB5.out.size))
    clear hb
    go_wp2_with fail
    refine (HD.out _).mono ?_
    rintro e w7 ⟨rfl, hb⟩
    have HX7 := Lib.hid ((hb.block _ (Array.getElem?_eq_some_iff.1 HX6.out).1).trans HX6.out)
    have HB7 := Lib.hid (HB6.out.trans (hb.mono HB6.out.size))
    clear hb
    go_wp2_with fail
    refine (HDM.out _).mono ?_
    rintro e w8 ⟨rfl, hb⟩
    have HX8 := Lib.hid ((hb.block _ (Array.getElem?_eq_some_iff.1 HX7.out).1).trans HX7.out)
    have HB8 := Lib.hid (HB7.out.trans (hb.mono HB7.out.size))
    clear hb
    go_upto_region 4 with (fail)
    obtain ⟨w9, hw9⟩ : ∃ w9, w8.alloc (.cells #[.string ⟨X0.toArray⟩, .string ⟨X1.toArray⟩, .string ⟨X2.toArray⟩, .string ⟨#[58, 13, 10]⟩, .string ⟨#[58, 45, 13, 10]⟩, .string ⟨#[58, 45, 45, 49, 13, 10]⟩, .string ⟨#[58, 45, 48, 13, 10]⟩, .string ⟨#[58, 57, 50, 50, 51, 51, 55, 50, 48, 51, 54, 56, 53, 52, 55, 55, 53, 56, 48, 56, 13, 10]⟩, .string ⟨#[58, 45, 57, 50, 50, 51, 51, 55, 50, 48, 51, 54, 56, 53, 52, 55, 55, 53, 56, 48, 57, 13, 10]⟩, .string ⟨X9.toArray⟩, .string ⟨X10.toArray⟩, .string ⟨#[42, 45, 49, 13, 10]⟩] 9) = w9 := ⟨_, rfl⟩
    have hx := World.alloc_heap_new w8 (.cells #[.string ⟨X0.toArray⟩, .string ⟨X1.toArray⟩, .string ⟨X2.toArray⟩, .string ⟨#[58, 13, 10]⟩, .string ⟨#[58, 45, 13, 10]⟩, .string ⟨#[58, 45, 45, 49, 13, 10]⟩, .string ⟨#[58, 45, 48, 13, 10]⟩, .string ⟨#[58, 57, 50, 50, 51, 51, 55, 50, 48, 51, 54, 56, 53, 52, 55, 55, 53, 56, 48, 56, 13, 10]⟩, .string ⟨#[58, 45, 57, 50, 50, 51, 51, 55, 50, 48, 51, 54, 56, 53, 52, 55, 55, 53, 56, 48, 57, 13, 10]⟩, .string ⟨X9.toArray⟩, .string ⟨X10.toArray⟩, .string ⟨#[42, 45, 49, 13, 10]⟩] 9)
    have hb : Below w8.heap.size w8 w9 := by rw [← hw9]; exact (Below.refl _ w8).alloc (Nat.le_refl _) _
    rw [hw9] at hx ⊢
    have hcell : w9.cell? ⟨w8.heap.size, 0, none⟩ = some (.string ⟨X0.toArray⟩) := by simp [World.cell?, hx]
    have HX9 := Lib.hid ((hb.block _ (Array.getElem?_eq_some_iff.1 HX8.out).1).trans HX8.out)
    have HB9 := Lib.hid (HB8.out.trans (hb.mono HB8.out.size))
    clear hb hx hw9
    go_wp2_with fail
    refine (HGB.out w9 (HENV.out.later HB9.out)).mono ?_
    rintro e w10 ⟨rfl, hb⟩
    have HX10 := Lib.hid ((hb.block _ (Array.getElem?_eq_some_iff.1 HX9.out).1).trans HX9.out)
    have HB10 := Lib.hid (HB9.out.trans (hb.mono HB9.out.size))
    clear hb cX hcell
    go_upto_region 5 with (fail)
    obtain ⟨w11, hw11⟩ : ∃ w11, w10.alloc (.cells #[.int .i64 0, .string ⟨#[]⟩, .int .i64 0, .slice none 0 0] 24) = w11 := ⟨_, rfl⟩
    have hb : Below w10.heap.size w10 w11 := by rw [← hw11]; exact (Below.refl _ w10).alloc (Nat.le_refl _) _
    rw [hw11]
    have HX11 := Lib.hid ((hb.block _ (Array.getElem?_eq_some_iff.1 HX10.out).1).trans HX10.out)
    have HB11 := Lib.hid (HB10.out.trans (hb.mono HB10.out.size))
    clear hb hw11
    go_wp2_with fail
    refine (HPN.out w11 (HENV.out.later HB11.out)).mono ?_
    rintro e w12 ⟨a12, c12, rfl, hcv12, hb⟩
    have hx12 := (hb.block _ (Array.getElem?_eq_some_iff.1 HX11.out).1).trans HX11.out
    obtain ⟨b0, b1, b2, b3⟩ := cells_four hx12
    have HB12 := Lib.hid (HB11.out.trans (hb.mono HB11.out.size))
    clear hb hx12
    go_wp2_with fail
    refine (num_law _ _).mono ?_
    rintro e w13 ⟨rfl, rfl⟩
    go_wp2_with fail
    refine (num_law _ _).mono ?_
    rintro e w13 ⟨rfl, rfl⟩
    go_wp2_with fail
    refine (awake_any _ (HENV.out.later HB12.out)).mono ?_
    rintro e w13 ⟨rfl, hb⟩
    have HB13 := Lib.hid (HB12.out.trans (hb.mono HB12.out.size))
    clear hb
    go_wp2_with fail
    go_ret
    exact ⟨rfl, HB13.out⟩
  · rw [hk] at hkt
    have HGB := Lib.hid (fun W hE => get_bad5 X1 (by omega) HY.out.2.1 W hE)
    have cX : ∀ W, (convert 9 28 (.string ⟨X1.toArray⟩)).run Tryd.prog W = .ok (.slice (some ⟨W.heap.size, 0, none⟩) X1.length (capS W X1)) (Lib.bytesWorld W 5 ⟨X1.toArray⟩) := fun W => sb_conv W X1
    clear hk
    go_enter Tryd.func9, Tryd.ntmps9
    go_wp2_with fail
    refine (HD.out _).mono ?_
    rintro e w1 ⟨rfl, hb⟩
    have HB1 := Lib.hid hb
    clear hb
    go_wp2_with fail
    refine (HGN.out w1 (HENV.out.later HB1.out)).mono ?_
    rintro e w2 ⟨a2, c2, rfl, hb⟩
    have HB2 := Lib.hid (HB1.out.trans (hb.mono HB1.out.size))
    clear hb cS
    go_upto_region 3 with (fail)
    obtain ⟨w3, hw3⟩ : ∃ w3, w2.alloc (.cells #[.int .i64 3, .string ⟨#[]⟩, .int .i64 n, .slice a2 0 c2] 24) = w3 := ⟨_, rfl⟩
    have hx := World.alloc_heap_new w2 (.cells #[.int .i64 3, .string ⟨#[]⟩, .int .i64 n, .slice a2 0 c2] 24)
    have hb : Below w2.heap.size w2 w3 := by rw [← hw3]; exact (Below.refl _ w2).alloc (Nat.le_refl _) _
    rw [hw3] at hx ⊢
    have HX3 := Lib.hid hx
    have HB3 := Lib.hid (HB2.out.trans (hb.mono HB2.out.size))
    clear hb hx hw3
    go_wp2_with fail
    refine (HD.out _).mono ?_
    rintro e w4 ⟨rfl, hb⟩
    have HX4 := Lib.hid ((hb.block _ (Array.getElem?_eq_some_iff.1 HX3.out).1).trans HX3.out)
    have HB4 := Lib.hid (HB3.out.trans (hb.mono HB3.out.size))
    clear hb
    go_wp2_with fail
    refine (HD.out _).mono ?_
    rintro e w5 ⟨rfl, hb⟩
    have HX5 := Lib.hid ((hb.block _ (Array.getElem?_eq_some_iff.1 HX4.out).1).trans HX4.out)
    have HB5 := Lib.hid (HB4.out.trans (hb.mono HB4.out.size))
    clear hb
    go_wp2_with fail
    refine (HD.out _).mono ?_
    rintro e w6 ⟨rfl, hb⟩
    have HX6 := Lib.hid ((hb.block _ (Array.getElem?_eq_some_iff.1 HX5.out).1).trans HX5.out)
    have HB6 := Lib.hid (HB5.out.trans (hb.mono HB5.out.size))
    clear hb
    go_wp2_with fail
    refine (HD.out _).mono ?_
    rintro e w7 ⟨rfl, hb⟩
    have HX7 := Lib.hid ((hb.block _ (Array.getElem?_eq_some_iff.1 HX6.out).1).trans HX6.out)
    have HB7 := Lib.hid (HB6.out.trans (hb.mono HB6.out.size))
    clear hb
    go_wp2_with fail
    refine (HDM.out _).mono ?_
    rintro e w8 ⟨rfl, hb⟩
    have HX8 := Lib.hid ((hb.block _ (Array.getElem?_eq_some_iff.1 HX7.out).1).trans HX7.out)
    have HB8 := Lib.hid (HB7.out.trans (hb.mono HB7.out.size))
    clear hb
    go_upto_region 4 with (fail)
    obtain ⟨w9, hw9⟩ : ∃ w9, w8.alloc (.cells #[.string ⟨X0.toArray⟩, .string ⟨X1.toArray⟩, .string ⟨X2.toArray⟩, .string ⟨#[58, 13, 10]⟩, .string ⟨#[58, 45, 13, 10]⟩, .string ⟨#[58, 45, 45, 49, 13, 10]⟩, .string ⟨#[58, 45, 48, 13, 10]⟩, .string ⟨#[58, 57, 50, 50, 51, 51, 55, 50, 48, 51, 54, 56, 53, 52, 55, 55, 53, 56, 48, 56, 13, 10]⟩, .string ⟨#[58, 45, 57, 50, 50, 51, 51, 55, 50, 48, 51, 54, 56, 53, 52, 55, 55, 53, 56, 48, 57, 13, 10]⟩, .string ⟨X9.toArray⟩, .string ⟨X10.toArray⟩, .string ⟨#[42, 45, 49, 13, 10]⟩] 9) = w9 := ⟨_, rfl⟩
    have hx := World.alloc_heap_new w8 (.cells #[.string ⟨X0.toArray⟩, .string ⟨X1.toArray⟩, .string ⟨X2.toArray⟩, .string ⟨#[58, 13, 10]⟩, .string ⟨#[58, 45, 13, 10]⟩, .string ⟨#[58, 45, 45, 49, 13, 10]⟩, .string ⟨#[58, 45, 48, 13, 10]⟩, .string ⟨#[58, 57, 50, 50, 51, 51, 55, 50, 48, 51, 54, 56, 53, 52, 55, 55, 53, 56, 48, 56, 13, 10]⟩, .string ⟨#[58, 45, 57, 50, 50, 51, 51, 55, 50, 48, 51, 54, 56, 53, 52, 55, 55, 53, 56, 48, 57, 13, 10]⟩, .string ⟨X9.toArray⟩, .string ⟨X10.toArray⟩, .string ⟨#[42, 45, 49, 13, 10]⟩] 9)
    have hb : Below w8.heap.size w8 w9 := by rw [← hw9]; exact (Below.refl _ w8).alloc (Nat.le_refl _) _
    rw [hw9] at hx ⊢
    have hcell : w9.cell? ⟨w8.heap.size, 1, none⟩ = some (.string ⟨X1.toArray⟩) := by simp [World.cell?, hx]
    have HX9 := Lib.hid ((hb.block _ (Array.getElem?_eq_some_iff.1 HX8.out).1).trans HX8.out)
    have HB9 := Lib.hid (HB8.out.trans (hb.mono HB8.out.size))
    clear hb hx hw9
    go_wp2_with fail
    refine (HGB.out w9 (HENV.out.later HB9.out)).mono ?_
    rintro e w10 ⟨rfl, hb⟩
    have HX10 := Lib.hid ((hb.block _ (Array.getElem?_eq_some_iff.1 HX9.out).1).trans HX9.out)
    have HB10 := Lib.hid (HB9.out.trans (hb.mono HB9.out.size))
    clear hb cX hcell
    go_upto_region 5 with (fail)
    obtain ⟨w11, hw11⟩ : ∃ w11, w10.alloc (.cells #[.int .i64 0, .string ⟨#[]⟩, .int .i64 0, .slice none 0 0] 24) = w11 := ⟨_, rfl⟩
    have hb : Below w10.heap.size w10 w11 := by rw [← hw11]; exact (Below.refl _ w10).alloc (Nat.le_refl _) _
    rw [hw11]
    have HX11 := Lib.hid ((hb.block _ (Array.getElem?_eq_some_iff.1 HX10.out).1).trans HX10.out)
    have HB11 := Lib.hid (HB10.out.trans (hb.mono HB10.out.size))
    clear hb hw11
    go_wp2_with fail
    refine (HPN.out w11 (HENV.out.later HB11.out)).mono ?_
    rintro e w12 ⟨a12, c12, rfl, hcv12, hb⟩
    have hx12 := (hb.block _ (Array.getElem?_eq_some_iff.1 HX11.out).1).trans HX11.out
    obtain ⟨b0, b1, b2, b3⟩ := cells_four hx12
    have HB12 := Lib.hid (HB11.out.trans (hb.mono HB11.out.size))
    clear hb hx12
    go_wp2_with fail
    refine (num_law _ _).mono ?_
    rintro e w13 ⟨rfl, rfl⟩
    go_wp2_with fail
    refine (num_law _ _).mono ?_
    rintro e w13 ⟨rfl, rfl⟩
    go_wp2_with fail
    refine (awake_any _ (HENV.out.later HB12.out)).mono ?_
    rintro e w13 ⟨rfl, hb⟩
    have HB13 := Lib.hid (HB12.out.trans (hb.mono HB12.out.size))
    clear hb
    go_wp2_with fail
    go_ret
    exact ⟨rfl, HB13.out⟩
  · rw [hk] at hkt
    have HGB := Lib.hid (fun W hE => get_bad5 X2 (by omega) HY.out.2.2.1 W hE)
    have cX : ∀ W, (convert 9 28 (.string ⟨X2.toArray⟩)).run Tryd.prog W = .ok (.slice (some ⟨W.heap.size, 0, none⟩) X2.length (capS W X2)) (Lib.bytesWorld W 5 ⟨X2.toArray⟩) := fun W => sb_conv W X2
    clear hk
    go_enter Tryd.func9, Tryd.ntmps9
    go_wp2_with fail
    refine (HD.out _).mono ?_
    rintro e w1 ⟨rfl, hb⟩
    have HB1 := Lib.hid hb
    clear hb
    go_wp2_with fail
    refine (HGN.out w1 (HENV.out.later HB1.out)).mono ?_
    rintro e w2 ⟨a2, c2, rfl, hb⟩
    have HB2 := Lib.hid (HB1.out.trans (hb.mono HB1.out.size))
    clear hb cS
    go_upto_region 3 with (fail)
    obtain ⟨w3, hw3⟩ : ∃ w3, w2.alloc (.cells #[.int .i64 3, .string ⟨#[]⟩, .int .i64 n, .slice a2 0 c2] 24) = w3 := ⟨_, rfl⟩
    have hx := World.alloc_heap_new w2 (.cells #[.int .i64 3, .string ⟨#[]⟩, .int .i64 n, .slice a2 0 c2] 24)
    have hb : Below w2.heap.size w2 w3 := by rw [← hw3]; exact (Below.refl _ w2).alloc (Nat.le_refl _) _
    rw [hw3] at hx ⊢
    have HX3 := Lib.hid hx
    have HB3 := Lib.hid (HB2.out.trans (hb.mono HB2.out.size))
    clear hb hx hw3
    go_wp2_with fail
    refine (HD.out _).mono ?_
    rintro e w4 ⟨rfl, hb⟩
    have HX4 := Lib.hid ((hb.block _ (Array.getElem?_eq_some_iff.1 HX3.out).1).trans HX3.out)
    have HB4 := Lib.hid (HB3.out.trans (hb.mono HB3.out.size))
    clear hb
    go_wp2_with fail
    refine (HD.out _).mono ?_
    rintro e w5 ⟨rfl, hb⟩
    have HX5 := Lib.hid ((hb.block _ (Array.getElem?_eq_some_iff.1 HX4.out).1).trans HX4.out)
    have HB5 := Lib.hid (HB4.out.trans (hb.mono HB4.out.size))
    clear hb
    go_wp2_with fail
    refine (HD.out _).mono ?_
    rintro e w6 ⟨rfl, hb⟩
    have HX6 := Lib.hid ((hb.block _ (Array.getElem?_eq_some_iff.1 HX5.out).1).trans HX5.out)
    have HB6 := Lib.hid (HB5.out.trans (hb.mono HB5.out.size))
    clear hb
    go_wp2_with fail
    refine (HD.out _).mono ?_
    rintro e w7 ⟨rfl, hb⟩
    have HX7 := Lib.hid ((hb.block _ (Array.getElem?_eq_some_iff.1 HX6.out).1).trans HX6.out)
    have HB7 := Lib.hid (HB6.out.trans (hb.mono HB6.out.size))
    clear hb
    go_wp2_with fail
    refine (HDM.out _).mono ?_
    rintro e w8 ⟨rfl, hb⟩
    have HX8 := Lib.hid ((hb.block _ (Array.getElem?_eq_some_iff.1 HX7.out).1).trans HX7.out)
    have HB8 := Lib.hid (HB7.out.trans (hb.mono HB7.out.size))
    clear hb
    go_upto_region 4 with (fail)
    obtain ⟨w9, hw9⟩ : ∃ w9, w8.alloc (.cells #[.string ⟨X0.toArray⟩, .string ⟨X1.toArray⟩, .string ⟨X2.toArray⟩, .string ⟨#[58, 13, 10]⟩, .string ⟨#[58, 45, 13, 10]⟩, .string ⟨#[58, 45, 45, 49, 13, 10]⟩, .string ⟨#[58, 45, 48, 13, 10]⟩, .string ⟨#[58, 57, 50, 50, 51, 51, 55, 50, 48, 51, 54, 56, 53, 52, 55, 55, 53, 56, 48, 56, 13, 10]⟩, .string ⟨#[58, 45, 57, 50, 50, 51, 51, 55, 50, 48, 51, 54, 56, 53, 52, 55, 55, 53, 56, 48, 57, 13, 10]⟩, .string ⟨X9.toArray⟩, .string ⟨X10.toArray⟩, .string ⟨#[42, 45, 49, 13, 10]⟩] 9) = w9 := ⟨_, rfl⟩
    have hx := World.alloc_heap_new w8 (.cells #[.string ⟨X0.toArray⟩, .string ⟨X1.toArray⟩, .string ⟨X2.toArray⟩, .string ⟨#[58, 13, 10]⟩, .string ⟨#[58, 45, 13, 10]⟩, .string ⟨#[58, 45, 45, 49, 13, 10]⟩, .string ⟨#[58, 45, 48, 13, 10]⟩, .string ⟨#[58, 57, 50, 50, 51, 51, 55, 50, 48, 51, 54, 56, 53, 52, 55, 55, 53, 56, 48, 56, 13, 10]⟩, .string ⟨#[58, 45, 57, 50, 50, 51, 51, 55, 50, 48, 51, 54, 56, 53, 52, 55, 55, 53, 56, 48, 57, 13, 10]⟩, .string ⟨X9.toArray⟩, .string ⟨X10.toArray⟩, .string ⟨#[42, 45, 49, 13, 10]⟩] 9)
    have hb : Below w8.heap.size w8 w9 := by rw [← hw9]; exact (Below.refl _ w8).alloc (Nat.le_refl _) _
    rw [hw9] at hx ⊢
    have hcell : w9.cell? ⟨w8.heap.size, 2, none⟩ = some (.string ⟨X2.toArray⟩) := by simp [World.cell?, hx]
    have HX9 := Lib.hid ((hb.block _ (Array.getElem?_eq_some_iff.1 HX8.out).1).trans HX8.out)
    have HB9 := Lib.hid (HB8.out.trans (hb.mono HB8.out.size))
    clear hb hx hw9
    go_wp2_with fail
    refine (HGB.out w9 (HENV.out.later HB9.out)).mono ?_
    rintro e w10 ⟨rfl, hb⟩
    have HX10 := Lib.hid ((hb.block _ (Array.getElem?_eq_some_iff.1 HX9.out).1).trans HX9.out)
    have HB10 := Lib.hid (HB9.out.trans (hb.mono HB9.out.size))
    clear hb cX hcell
    go_upto_region 5 with (fail)
    obtain ⟨w11, hw11⟩ : ∃ w11, w10.alloc (.cells #[.int .i64 0, .string ⟨#[]⟩, .int .i64 0, .slice none 0 0] 24) = w11 := ⟨_, rfl⟩
    have hb : Below w10.heap.size w10 w11 := by rw [← hw11]; exact (Below.refl _ w10).alloc (Nat.le_refl _) _
    rw [hw11]
    have HX11 := Lib.hid ((hb.block _ (Array.getElem?_eq_some_iff.1 HX10.out).1).trans HX10.out)
    have HB11 := Lib.hid (HB10.out.trans (hb.mono HB10.out.size))
    clear hb hw11
    go_wp2_with fail
    refine (HPN.out w11 (HENV.out.later HB11.out)).mono ?_
    rintro e w12 ⟨a12, c12, rfl, hcv12, hb⟩
    have hx12 := (hb.block _ (Array.getElem?_eq_some_iff.1 HX11.out).1).trans HX11.out
    obtain ⟨b0, b1, b2, b3⟩ := cells_four hx12
    have HB12 := Lib.hid (HB11.out.trans (hb.mono HB11.out.size))
    clear hb hx12
    go_wp2_with fail
    refine (num_law _ _).mono ?_
    rintro e w13 ⟨rfl, rfl⟩
    go_wp2_with fail
    refine (num_law _ _).mono ?_
    rintro e w13 ⟨rfl, rfl⟩
    go_wp2_with fail
    refine (awake_any _ (HENV.out.later HB12.out)).mono ?_
    rintro e w13 ⟨rfl, hb⟩
    have HB13 := Lib.hid (HB12.out.trans (hb.mono HB12.out.size))
    clear hb
    go_wp2_with fail
    go_ret
    exact ⟨rfl, HB13.out⟩
  · rw [hk] at hkt
    have HGB := Lib.hid (fun W hE => get_bad5 [58, 13, 10] (by decide) Rp.bad3 W hE)
    have cX : ∀ W, (convert 9 28 (.string ⟨#[58, 13, 10]⟩)).run Tryd.prog W = .ok (.slice (some ⟨W.heap.size, 0, none⟩) 3 (capS W [58, 13, 10])) (Lib.bytesWorld W 5 ⟨#[58, 13, 10]⟩) := fun W => sb_conv W [58, 13, 10]
    clear hk
    go_enter Tryd.func9, Tryd.ntmps9
    go_wp2_with fail
    refine (HD.out _).mono ?_
    rintro e w1 ⟨rfl, hb⟩
    have HB1 := Lib.hid hb
    clear hb
    go_wp2_with fail
    refine (HGN.out w1 (HENV.out.later HB1.out)).mono ?_
    rintro e w2 ⟨a2, c2, rfl, hb⟩
    have HB2 := Lib.hid (HB1.out.trans (hb.mono HB1.out.size))
    clear hb cS
    go_upto_region 3 with (fail)
    obtain ⟨w3, hw3⟩ : ∃ w3, w2.alloc (.cells #[.int .i64 3, .string ⟨#[]⟩, .int .i64 n, .slice a2 0 c2] 24) = w3 := ⟨_, rfl⟩
    have hx := World.alloc_heap_new w2 (.cells #[.int .i64 3, .string ⟨#[]⟩, .int .i64 n, .slice a2 0 c2] 24)
    have hb : Below w2.heap.size w2 w3 := by rw [← hw3]; exact (Below.refl _ w2).alloc (Nat.le_refl _) _
    rw [hw3] at hx ⊢
    have HX3 := Lib.hid hx
    have HB3 := Lib.hid (HB2.out.trans (hb.mono HB2.out.size))
    clear hb hx hw3
    go_wp2_with fail
    refine (HD.out _).mono ?_
    rintro e w4 ⟨rfl, hb⟩
    have HX4 := Lib.hid ((hb.block _ (Array.getElem?_eq_some_iff.1 HX3.out).1).trans HX3.out)
    have HB4 := Lib.hid (HB3.out.trans (hb.mono HB3.out.size))
    clear hb
    go_wp2_with fail
    refine (HD.out _).mono ?_
    rintro e w5 ⟨rfl, hb⟩
    have HX5 := Lib.hid ((hb.block _ (Array.getElem?_eq_some_iff.1 HX4.out).1).trans HX4.out)
    have HB5 := Lib.hid (HB4.out.trans (hb.mono HB4.out.size))
    clear hb
    go_wp2_with fail
    refine (HD.out _).mono ?_
    rintro e w6 ⟨rfl, hb⟩
    have HX6 := Lib.hid ((hb.block _ (Array.getElem?_eq_some_iff.1 HX5.out).1).trans HX5.out)
    have HB6 := Lib.hid (HB5.out.trans (hb.mono HB5.out.size))
    clear hb
    go_wp2_with fail
    refine (HD.out _).mono ?_
    rintro e w7 ⟨rfl, hb⟩
    have HX7 := Lib.hid ((hb.block _ (Array.getElem?_eq_some_iff.1 HX6.out).1).trans HX6.out)
    have HB7 := Lib.hid (HB6.out.trans (hb.mono HB6.out.size))
    clear hb
    go_wp2_with fail
    refine (HDM.out _).mono ?_
    rintro e w8 ⟨rfl, hb⟩
    have HX8 := Lib.hid ((hb.block _ (Array.getElem?_eq_some_iff.1 HX7.out).1).trans HX7.out)
    have HB8 := Lib.hid (HB7.out.trans (hb.mono HB7.out.size))
    clear hb
    go_upto_region 4 with (fail)
    obtain ⟨w9, hw9⟩ : ∃ w9, w8.alloc (.cells #[.string ⟨X0.toArray⟩, .string ⟨X1.toArray⟩, .string ⟨X2.toArray⟩, .string ⟨#[58, 13, 10]⟩, .string ⟨#[58, 45, 13, 10]⟩, .string ⟨#[58, 45, 45, 49, 13, 10]⟩, .string ⟨#[58, 45, 48, 13, 10]⟩, .string ⟨#[58, 57, 50, 50, 51, 51, 55, 50, 48, 51, 54, 56, 53, 52, 55, 55, 53, 56, 48, 56, 13, 10]⟩, .string ⟨#[58, 45, 57, 50, 50, 51, 51, 55, 50, 48, 51, 54, 56, 53, 52, 55, 55, 53, 56, 48, 57, 13, 10]⟩, .string ⟨X9.toArray⟩, .string ⟨X10.toArray⟩, .string ⟨#[42, 45, 49, 13, 10]⟩] 9) = w9 := ⟨_, rfl⟩
    have hx := World.alloc_heap_new w8 (.cells #[.string ⟨X0.toArray⟩, .string ⟨X1.toArray⟩, .string ⟨X2.toArray⟩, .string ⟨#[58, 13, 10]⟩, .string ⟨#[58, 45, 13, 10]⟩, .string ⟨#[58, 45, 45, 49, 13, 10]⟩, .string ⟨#[58, 45, 48, 13, 10]⟩, .string ⟨#[58, 57, 50, 50, 51, 51, 55, 50, 48, 51, 54, 56, 53, 52, 55, 55, 53, 56, 48, 56, 13, 10]⟩, .string ⟨#[58, 45, 57, 50, 50, 51, 51, 55, 50, 48, 51, 54, 56, 53, 52, 55, 55, 53, 56, 48, 57, 13, 10]⟩, .string ⟨X9.toArray⟩, .string ⟨X10.toArray⟩, .string ⟨#[42, 45, 49, 13, 10]⟩] 9)
    have hb : Below w8.heap.size w8 w9 := by rw [← hw9]; exact (Below.refl _ w8).alloc (Nat.le_refl _) _
    rw [hw9] at hx ⊢
    have hcell : w9.cell? ⟨w8.heap.size, 3, none⟩ = some (.string ⟨#[58, 13, 10]⟩) := by simp [World.cell?, hx]
    have HX9 := Lib.hid ((hb.block _ (Array.getElem?_eq_some_iff.1 HX8.out).1).trans HX8.out)
    have HB9 := Lib.hid (HB8.out.trans (hb.mono HB8.out.size))
    clear hb hx hw9
    go_wp2_with fail
    refine (HGB.out w9 (HENV.out.later HB9.out)).mono ?_
    rintro e w10 ⟨rfl, hb⟩
    have HX10 := Lib.hid ((hb.block _ (Array.getElem?_eq_some_iff.1 HX9.out).1).trans HX9.out)
    have HB10 := Lib.hid (HB9.out.trans (hb.mono HB9.out.size))
    clear hb cX hcell
    go_upto_region 5 with (fail)
    obtain ⟨w11, hw11⟩ : ∃ w11, w10.alloc (.cells #[.int .i64 0, .string ⟨#[]⟩, .int .i64 0, .slice none 0 0] 24) = w11 := ⟨_, rfl⟩
    have hb : Below w10.heap.size w10 w11 := by rw [← hw11]; exact (Below.refl _ w10).alloc (Nat.le_refl _) _
    rw [hw11]
    have HX11 := Lib.hid ((hb.block _ (Array.getElem?_eq_some_iff.1 HX10.out).1).trans HX10.out)
    have HB11 := Lib.hid (HB10.out.trans (hb.mono HB10.out.size))
    clear hb hw11
    go_wp2_with fail
    refine (HPN.out w11 (HENV.out.later HB11.out)).mono ?_
    rintro e w12 ⟨a12, c12, rfl, hcv12, hb⟩
    have hx12 := (hb.block _ (Array.getElem?_eq_some_iff.1 HX11.out).1).trans HX11.out
    obtain ⟨b0, b1, b2, b3⟩ := cells_four hx12
    have HB12 := Lib.hid (HB11.out.trans (hb.mono HB11.out.size))
    clear hb hx12
    go_wp2_with fail
    refine (num_law _ _).mono ?_
    rintro e w13 ⟨rfl, rfl⟩
    go_wp2_with fail
    refine (num_law _ _).mono ?_
    rintro e w13 ⟨rfl, rfl⟩
    go_wp2_with fail
    refine (awake_any _ (HENV.out.later HB12.out)).mono ?_
    rintro e w13 ⟨rfl, hb⟩
    have HB13 := Lib.hid (HB12.out.trans (hb.mono HB12.out.size))
    clear hb
    go_wp2_with fail
    go_ret
    exact ⟨rfl, HB13.out⟩
  · rw [hk] at hkt
    have HGB := Lib.hid (fun W hE => get_bad5 [58, 45, 13, 10] (by decide) Rp.bad4 W hE)
    have cX : ∀ W, (convert 9 28 (.string ⟨#[58, 45, 13, 10]⟩)).run Tryd.prog W = .ok (.slice (some ⟨W.heap.size, 0, none⟩) 4 (capS W [58, 45, 13, 10])) (Lib.bytesWorld W 5 ⟨#[58, 45, 13, 10]⟩) := fun W => sb_conv W [58, 45, 13, 10]
    clear hk
    go_enter Tryd.func9, Tryd.ntmps9
    go_wp2_with fail
    refine (HD.out _).mono ?_
    rintro e w1 ⟨rfl, hb⟩
    have HB1 := Lib.hid hb
    clear hb
    go_wp2_with fail
    refine (HGN.out w1 (HENV.out.later HB1.out)).mono ?_
    rintro e w2 ⟨a2, c2, rfl, hb⟩
    have HB2 := Lib.hid (HB1.out.trans (hb.mono HB1.out.size))
    clear hb cS
    go_upto_region 3 with (fail)
    obtain ⟨w3, hw3⟩ : ∃ w3, w2.alloc (.cells #[.int .i64 3, .string ⟨#[]⟩, .int .i64 n, .slice a2 0 c2] 24) = w3 := ⟨_, rfl⟩
    have hx := World.alloc_heap_new w2 (.cells #[.int .i64 3, .string ⟨#[]⟩, .int .i64 n, .slice a2 0 c2] 24)
    have hb : Below w2.heap.size w2 w3 := by rw [← hw3]; exact (Below.refl _ w2).alloc (Nat.le_refl _) _
    rw [hw3] at hx ⊢
    have HX3 := Lib.hid hx
    have HB3 := Lib.hid (HB2.out.trans (hb.mono HB2.out.size))
    clear hb hx hw3
    go_wp2_with fail
    refine (HD.out _).mono ?_
    rintro e w4 ⟨rfl, hb⟩
    have HX4 := Lib.hid ((hb.block _ (Array.getElem?_eq_some_iff.1 HX3.out).1).trans HX3.out)
    have HB4 := Lib.hid (HB3.out.trans (hb.mono HB3.out.size))
    clear hb
    go_wp2_with fail
    refine (HD.out _).mono ?_
    rintro e w5 ⟨rfl, hb⟩
    have HX5 := Lib.hid ((hb.block _ (Array.getElem?_eq_some_iff.1 HX4.out).1).trans HX4.out)
    have HB5 := Lib.hid (HB4.out.trans (hb.mono HB4.out.size))
    clear hb
    go_wp2_with fail
    refine (HD.out _).mono ?_
    rintro e w6 ⟨rfl, hb⟩
    have HX6 := Lib.hid ((hb.block _ (Array.getElem?_eq_some_iff.1 HX5.out).1).trans HX5.out)
    have HB6 := Lib.hid (HB5.out.trans (hb.mono HB5.out.size))
    clear hb
    go_wp2_with fail
    refine (HD.out _).mono ?_
    rintro e w7 ⟨rfl, hb⟩
    have HX7 := Lib.hid ((hb.block _ (Array.getElem?_eq_some_iff.1 HX6.out).1).trans HX6.out)
    have HB7 := Lib.hid (HB6.out.trans (hb.mono HB6.out.size))
    clear hb
    go_wp2_with fail
    refine (HDM.out _).mono ?_
    rintro e w8 ⟨rfl, hb⟩
    have HX8 := Lib.hid ((hb.block _ (Array.getElem?_eq_some_iff.1 HX7.out).1).trans HX7.out)
    have HB8 := Lib.hid (HB7.out.trans (hb.mono HB7.out.size))
    clear hb
    go_upto_region 4 with (fail)
    obtain ⟨w9, hw9⟩ : ∃ w9, w8.alloc (.cells #[.string ⟨X0.toArray⟩, .string ⟨X1.toArray⟩, .string ⟨X2.toArray⟩, .string ⟨#[58, 13, 10]⟩, .string ⟨#[58, 45, 13, 10]⟩, .string ⟨#[58, 45, 45, 49, 13, 10]⟩, .string ⟨#[58, 45, 48, 13, 10]⟩, .string ⟨#[58, 57, 50, 50, 51, 51, 55, 50, 48, 51, 54, 56, 53, 52, 55, 55, 53, 56, 48, 56, 13, 10]⟩, .string ⟨#[58, 45, 57, 50, 50, 51, 51, 55, 50, 48, 51, 54, 56, 53, 52, 55, 55, 53, 56, 48, 57, 13, 10]⟩, .string ⟨X9.toArray⟩, .string ⟨X10.toArray⟩, .string ⟨#[42, 45, 49, 13, 10]⟩] 9) = w9 := ⟨_, rfl⟩
    have hx := World.alloc_heap_new w8 (.cells #[.string ⟨X0.toArray⟩, .string ⟨X1.toArray⟩, .string ⟨X2.toArray⟩, .string ⟨#[58, 13, 10]⟩, .string ⟨#[58, 45, 13, 10]⟩, .string ⟨#[58, 45, 45, 49, 13, 10]⟩, .string ⟨#[58, 45, 48, 13, 10]⟩, .string ⟨#[58, 57, 50, 50, 51, 51, 55, 50, 48, 51, 54, 56, 53, 52, 55, 55, 53, 56, 48, 56, 13, 10]⟩, .string ⟨#[58, 45, 57, 50, 50, 51, 51, 55, 50, 48, 51, 54, 56, 53, 52, 55, 55, 53, 56, 48, 57, 13, 10]⟩, .string ⟨X9.toArray⟩, .string ⟨X10.toArray⟩, .string ⟨#[42, 45, 49, 13, 10]⟩] 9)
    have hb : Below w8.heap.size w8 w9 := by rw [← hw9]; exact (Below.refl _ w8).alloc (Nat.le_refl _) _
    rw [hw9] at hx ⊢
    have hcell : w9.cell? ⟨w8.heap.size, 4, none⟩ = some (.string ⟨#[58, 45, 13, 10]⟩) := by simp [World.cell?, hx]
    have HX9 := Lib.hid ((hb.block _ (Array.getElem?_eq_some_iff.1 HX8.out).1).trans HX8.out)
    have HB9 := Lib.hid (HB8.out.trans (hb.mono HB8.out.size))
    clear hb hx hw9
    go_wp2_with fail
    refine (HGB.out w9 (HENV.out.later HB9.out)).mono ?_
    rintro e w10 ⟨rfl, hb⟩
    have HX10 := Lib.hid ((hb.block _ (Array.getElem?_eq_some_iff.1 HX9.out).1).trans HX9.out)
    have HB10 := Lib.hid (HB9.out.trans (hb.mono HB9.out.size))
    clear hb cX hcell
    go_upto_region 5 with (fail)
    obtain ⟨w11, hw11⟩ : ∃ w11, w10.alloc (.cells #[.int .i64 0, .string ⟨#[]⟩, .int .i64 0, .slice none 0 0] 24) = w11 := ⟨_, rfl⟩
    have hb : Below w10.heap.size w10 w11 := by rw [← hw11]; exact (Below.refl _ w10).alloc (Nat.le_refl _) _
    rw [hw11]
    have HX11 := Lib.hid ((hb.block _ (Array.getElem?_eq_some_iff.1 HX10.out).1).trans HX10.out)
    have HB11 := Lib.hid (HB10.out.trans (hb.mono HB10.out.size))
    clear hb hw11
    go_wp2_with fail
    refine (HPN.out w11 (HENV.out.later HB11.out)).mono ?_
    rintro e w12 ⟨a12, c12, rfl, hcv12, hb⟩
    have hx12 := (hb.block _ (Array.getElem?_eq_some_iff.1 HX11.out).1).trans HX11.out
    obtain ⟨b0, b1, b2, b3⟩ := cells_four hx12
    have HB12 := Lib.hid (HB11.out.trans (hb.mono HB11.out.size))
    clear hb hx12
    go_wp2_with fail
    refine (num_law _ _).mono ?_
    rintro e w13 ⟨rfl, rfl⟩
    go_wp2_with fail
    refine (num_law _ _).mono ?_
    rintro e w13 ⟨rfl, rfl⟩
    go_wp2_with fail
    refine (awake_any _ (HENV.out.later HB12.out)).mono ?_
    rintro e w13 ⟨rfl, hb⟩
    have HB13 := Lib.hid (HB12.out.trans (hb.mono HB12.out.size))
    clear hb
    go_wp2_with fail
    go_ret
    exact ⟨rfl, HB13.out⟩
  · rw [hk] at hkt
    have HGB := Lib.hid (fun W hE => get_bad5 [58, 45, 45, 49, 13, 10] (by decide) Rp.bad5 W hE)
    have cX : ∀ W, (convert 9 28 (.string ⟨#[58, 45, 45, 49, 13, 10]⟩)).run Tryd.prog W = .ok (.slice (some ⟨W.heap.size, 0, none⟩) 6 (capS W [58, 45, 45, 49, 13, 10])) (Lib.bytesWorld W 5 ⟨#[58, 45, 45, 49, 13, 10]⟩) := fun W => sb_conv W [58, 45, 45, 49, 13, 10]
    clear hk
    go_enter Tryd.func9, Tryd.ntmps9
    go_wp2_with fail
    refine (HD.out _).mono ?_
    rintro e w1 ⟨rfl, hb⟩
    have HB1 := Lib.hid hb
    clear hb
    go_wp2_with fail
    refine (HGN.out w1 (HENV.out.later HB1.out)).mono ?_
    rintro e w2 ⟨a2, c2, rfl, hb⟩
    have HB2 := Lib.hid (HB1.out.trans (hb.mono HB1.out.size))
    clear hb cS
    go_upto_region 3 with (fail)
    obtain ⟨w3, hw3⟩ : ∃ w3, w2.alloc (.cells #[.int .i64 3, .string ⟨#[]⟩, .int .i64 n, .slice a2 0 c2] 24) = w3 := ⟨_, rfl⟩
    have hx := World.alloc_heap_new w2 (.cells #[.int .i64 3, .string ⟨#[]⟩, .int .i64 n, .slice a2 0 c2] 24)
    have hb : Below w2.heap.size w2 w3 := by rw [← hw3]; exact (Below.refl _ w2).alloc (Nat.le_refl _) _
    rw [hw3] at hx ⊢
    have HX3 := Lib.hid hx
    have HB3 := Lib.hid (HB2.out.trans (hb.mono HB2.out.size))
    clear hb hx hw3
    go_wp2_with fail
    refine (HD.out _).mono ?_
    rintro e w4 ⟨rfl, hb⟩
    have HX4 := Lib.hid ((hb.block _ (Array.getElem?_eq_some_iff.1 HX3.out).1).trans HX3.out)
    have HB4 := Lib.hid (HB3.out.trans (hb.mono HB3.out.size))
    clear hb
    go_wp2_with fail
    refine (HD.out _).mono ?_
    rintro e w5 ⟨rfl, hb⟩
    have HX5 := Lib.hid ((hb.block _ (Array.getElem?_eq_some_iff.1 HX4.out).1).trans HX4.out)
    have HB5 := Lib.hid (HB4.out.trans (hb.mono HB4.out.size))
    clear hb
    go_wp2_with fail
    refine (HD.out _).mono ?_
    rintro e w6 ⟨rfl, hb⟩
    have HX6 := Lib.hid ((hb.block _ (Array.getElem?_eq_some_iff.1 HX5.out).1).trans HX5.out)
    have HB6 := Lib.hid (HB5.out.trans (hb.mono HB5.out.size))
    clear hb
    go_wp2_with fail
    refine (HD.out _).mono ?_
    rintro e w7 ⟨rfl, hb⟩
    have HX7 := Lib.hid ((hb.block _ (Array.getElem?_eq_some_iff.1 HX6.out).1).trans HX6.out)
    have HB7 := Lib.hid (HB6.out.trans (hb.mono HB6.out.size))
    clear hb
    go_wp2_with fail
    refine (HDM.out _).mono ?_
    rintro e w8 ⟨rfl, hb⟩
    have HX8 := Lib.hid ((hb.block _ (Array.getElem?_eq_some_iff.1 HX7.out).1).trans HX7.out)
    have HB8 := Lib.hid (HB7.out.trans (hb.mono HB7.out.size))
    clear hb
    go_upto_region 4 with (fail)
    obtain ⟨w9, hw9⟩ : ∃ w9, w8.alloc (.cells #[.string ⟨X0.toArray⟩, .string ⟨X1.toArray⟩, .string ⟨X2.toArray⟩, .string ⟨#[58, 13, 10]⟩, .string ⟨#[58, 45, 13, 10]⟩, .string ⟨#[58, 45, 45, 49, 13, 10]⟩, .string ⟨#[58, 45, 48, 13, 10]⟩, .string ⟨#[58, 57, 50, 50, 51, 51, 55, 50, 48, 51, 54, 56, 53, 52, 55, 55, 53, 56, 48, 56, 13, 10]⟩, .string ⟨#[58, 45, 57, 50, 50, 51, 51, 55, 50, 48, 51, 54, 56, 53, 52, 55, 55, 53, 56, 48, 57, 13, 10]⟩, .string ⟨X9.toArray⟩, .string ⟨X10.toArray⟩, .string ⟨#[42, 45, 49, 13, 10]⟩] 9) = w9 := ⟨_, rfl⟩
    have hx := World.alloc_heap_new w8 (.cells #[.string ⟨X0.toArray⟩, .string ⟨X1.toArray⟩, .string ⟨X2.toArray⟩, .string ⟨#[58, 13, 10]⟩, .string ⟨#[58, 45, 13, 10]⟩, .string ⟨#[58, 45, 45, 49, 13, 10]⟩, .string ⟨#[58, 45, 48, 13, 10]⟩, .string ⟨#[58, 57, 50, 50, 51, 51, 55, 50, 48, 51, 54, 56, 53, 52, 55, 55, 53, 56, 48, 56, 13, 10]⟩, .string ⟨#[58, 45, 57, 50, 50, 51, 51, 55, 50, 48, 51, 54, 56, 53, 52, 55, 55, 53, 56, 48, 57, 13, 10]⟩, .string ⟨X9.toArray⟩, .string ⟨X10.toArray⟩, .string ⟨#[42, 45, 49, 13, 10]⟩] 9)
    have hb : Below w8.heap.size w8 w9 := by rw [← hw9]; exact (Below.refl _ w8).alloc (Nat.le_refl _) _
    rw [hw9] at hx ⊢
    have hcell : w9.cell? ⟨w8.heap.size, 5, none⟩ = some (.string ⟨#[58, 45, 45, 49, 13, 10]⟩) := by simp [World.cell?, hx]
    have HX9 := Lib.hid ((hb.block _ (Array.getElem?_eq_some_iff.1 HX8.out).1).trans HX8.out)
    have HB9 := Lib.hid (HB8.out.trans (hb.mono HB8.out.size))
    clear hb hx hw9
    go_wp2_with fail
    refine (HGB.out w9 (HENV.out.later HB9.out)).mono ?_
    rintro e w10 ⟨rfl, hb⟩
    have HX10 := Lib.hid ((hb.block _ (Array.getElem?_eq_some_iff.1 HX9.out).1).trans HX9.out)
    have HB10 := Lib.hid (HB9.out.trans (hb.mono HB9.out.size))
    clear hb cX hcell
    go_upto_region 5 with (fail)
    obtain ⟨w11, hw11⟩ : ∃ w11, w10.alloc (.cells #[.int .i64 0, .string ⟨#[]⟩, .int .i64 0, .slice none 0 0] 24) = w11 := ⟨_, rfl⟩
    have hb : Below w10.heap.size w10 w11 := by rw [← hw11]; exact (Below.refl _ w10).alloc (Nat.le_refl _) _
    rw [hw11]
    have HX11 := Lib.hid ((hb.block _ (Array.getElem?_eq_some_iff.1 HX10.out).1).trans HX10.out)
    have HB11 := Lib.hid (HB10.out.trans (hb.mono HB10.out.size))
    clear hb hw11
    go_wp2_with fail
    refine (HPN.out w11 (HENV.out.later HB11.out)).mono ?_
    rintro e w12 ⟨a12, c12, rfl, hcv12, hb⟩
    have hx12 := (hb.block _ (Array.getElem?_eq_some_iff.1 HX11.out).1).trans HX11.out
    obtain ⟨b0, b1, b2, b3⟩ := cells_four hx12
    have HB12 := Lib.hid (HB11.out.trans (hb.mono HB11.out.size))
    clear hb hx12
    go_wp2_with fail
    refine (num_law _ _).mono ?_
    rintro e w13 ⟨rfl, rfl⟩
    go_wp2_with fail
    refine (num_law _ _).mono ?_
    rintro e w13 ⟨rfl, rfl⟩
    go_wp2_with fail
    refine (awake_any _ (HENV.out.later HB12.out)).mono ?_
    rintro e w13 ⟨rfl, hb⟩
    have HB13 := Lib.hid (HB12.out.trans (hb.mono HB12.out.size))
    clear hb
    go_wp2_with fail
    go_ret
    exact ⟨rfl, HB13.out⟩
  · rw [hk] at hkt
    have HGB := Lib.hid (fun W hE => get_bad5 [58, 45, 48, 13, 10] (by decide) Rp.bad6 W hE)
    have cX : ∀ W, (convert 9 28 (.string ⟨#[58, 45, 48, 13, 10]⟩)).run Tryd.prog W = .ok (.slice (some ⟨W.heap.size, 0, none⟩) 5 (capS W [58, 45, 48, 13, 10])) (Lib.bytesWorld W 5 ⟨#[58, 45, 48, 13, 10]⟩) := fun W => sb_conv W [58, 45, 48, 13, 10]
    clear hk
    go_enter Tryd.func9, Tryd.ntmps9
    go_wp2_with fail
    refine (HD.out _).mono ?_
    rintro e w1 ⟨rfl, hb⟩
    have HB1 := Lib.hid hb
    clear hb
    go_wp2_with fail
    refine (HGN.out w1 (HENV.out.later HB1.out)).mono ?_
    rintro e w2 ⟨a2, c2, rfl, hb⟩
    have HB2 := Lib.hid (HB1.out.trans (hb.mono HB1.out.size))
    clear hb cS
    go_upto_region 3 with (fail)
    obtain ⟨w3, hw3⟩ : ∃ w3, w2.alloc (.cells #[.int .i64 3, .string ⟨#[]⟩, .int .i64 n, .slice a2 0 c2] 24) = w3 := ⟨_, rfl⟩
    have hx := World.alloc_heap_new w2 (.cells #[.int .i64 3, .string ⟨#[]⟩, .int .i64 n, .slice a2 0 c2] 24)
    have hb : Below w2.heap.size w2 w3 := by rw [← hw3]; exact (Below.refl _ w2).alloc (Nat.le_refl _) _
    rw [hw3] at hx ⊢
    have HX3 := Lib.hid hx
    have HB3 := Lib.hid (HB2.out.trans (hb.mono HB2.out.size))
    clear hb hx hw3
    go_wp2_with fail
    refine (HD.out _).mono ?_
    rintro e w4 ⟨rfl, hb⟩
    have HX4 := Lib.hid ((hb.block _ (Array.getElem?_eq_some_iff.1 HX3.out).1).trans HX3.out)
    have HB4 := Lib.hid (HB3.out.trans (hb.mono HB3.out.size))
    clear hb
    go_wp2_with fail
    refine (HD.out _).mono ?_
    rintro e w5 ⟨rfl, hb⟩
    have HX5 := Lib.hid ((hb.block _ (Array.getElem?_eq_some_iff.1 HX4.out).1).trans HX4.out)
    have HB5 := Lib.hid (HB4.out.trans (hb.mono HB4.out.size))
    clear hb
    go_wp2_with fail
    refine (HD.out _).mono ?_
    rintro e w6 ⟨rfl, hb⟩
    have HX6 := Lib.hid ((hb.block _ (Array.getElem?_eq_some_iff.1 HX5.out).1).trans HX5.out)
    have HB6 := Lib.hid (HB5.out.trans (hb.mono HB5.out.size))
    clear hb
    go_wp2_with fail
    refine (HD.out _).mono ?_
    rintro e w7 ⟨rfl, hb⟩
    have HX7 := Lib.hid ((hb.block _ (Array.getElem?_eq_some_iff.1 HX6.out).1).trans HX6.out)
    have HB7 := Lib.hid (HB6.out.trans (hb.mono HB6.out.size))
    clear hb
    go_wp2_with fail
    refine (HDM.out _).mono ?_
    rintro e w8 ⟨rfl, hb⟩
    have HX8 := Lib.hid ((hb.block _ (Array.getElem?_eq_some_iff.1 HX7.out).1).trans HX7.out)
    have HB8 := Lib.hid (HB7.out.trans (hb.mono HB7.out.size))
    clear hb
    go_upto_region 4 with (fail)
    obtain ⟨w9, hw9⟩ : ∃ w9, w8.alloc (.cells #[.string ⟨X0.toArray⟩, .string ⟨X1.toArray⟩, .string ⟨X2.toArray⟩, .string ⟨#[58, 13, 10]⟩, .string ⟨#[58, 45, 13, 10]⟩, .string ⟨#[58, 45, 45, 49, 13, 10]⟩, .string ⟨#[58, 45, 48, 13, 10]⟩, .string ⟨#[58, 57, 50, 50, 51, 51, 55, 50, 48, 51, 54, 56, 53, 52, 55, 55, 53, 56, 48, 56, 13, 10]⟩, .string ⟨#[58, 45, 57, 50, 50, 51, 51, 55, 50, 48, 51, 54, 56, 53, 52, 55, 55, 53, 56, 48, 57, 13, 10]⟩, .string ⟨X9.toArray⟩, .string ⟨X10.toArray⟩, .string ⟨#[42, 45, 49, 13, 10]⟩] 9) = w9 := ⟨_, rfl⟩
    have hx := World.alloc_heap_new w8 (.cells #[.string ⟨X0.toArray⟩, .string ⟨X1.toArray⟩, .string ⟨X2.toArray⟩, .string ⟨#[58, 13, 10]⟩, .string ⟨#[58, 45, 13, 10]⟩, .string ⟨#[58, 45, 45, 49, 13, 10]⟩, .string ⟨#[58, 45, 48, 13, 10]⟩, .string ⟨#[58, 57, 50, 50, 51, 51, 55, 50, 48, 51, 54, 56, 53, 52, 55, 55, 53, 56, 48, 56, 13, 10]⟩, .string ⟨#[58, 45, 57, 50, 50, 51, 51, 55, 50, 48, 51, 54, 56, 53, 52, 55, 55, 53, 56, 48, 57, 13, 10]⟩, .string ⟨X9.toArray⟩, .string ⟨X10.toArray⟩, .string ⟨#[42, 45, 49, 13, 10]⟩] 9)
    have hb : Below w8.heap.size w8 w9 := by rw [← hw9]; exact (Below.refl _ w8).alloc (Nat.le_refl _) _
    rw [hw9] at hx ⊢
    have hcell : w9.cell? ⟨w8.heap.size, 6, none⟩ = some (.string ⟨#[58, 45, 48, 13, 10]⟩) := by simp [World.cell?, hx]
    have HX9 := Lib.hid ((hb.block _ (Array.getElem?_eq_some_iff.1 HX8.out).1).trans HX8.out)
    have HB9 := Lib.hid (HB8.out.trans (hb.mono HB8.out.size))
    clear hb hx hw9
    go_wp2_with fail
    refine (HGB.out w9 (HENV.out.later HB9.out)).mono ?_
    rintro e w10 ⟨rfl, hb⟩
    have HX10 := Lib.hid ((hb.block _ (Array.getElem?_eq_some_iff.1 HX9.out).1).trans HX9.out)
    have HB10 := Lib.hid (HB9.out.trans (hb.mono HB9.out.size))
    clear hb cX hcell
    go_upto_region 5 with (fail)
    obtain ⟨w11, hw11⟩ : ∃ w11, w10.alloc (.cells #[.int .i64 0, .string ⟨#[]⟩, .int .i64 0, .slice none 0 0] 24) = w11 := ⟨_, rfl⟩
    have hb : Below w10.heap.size w10 w11 := by rw [← hw11]; exact (Below.refl _ w10).alloc (Nat.le_refl _) _
    rw [hw11]
    have HX11 := Lib.hid ((hb.block _ (Array.getElem?_eq_some_iff.1 HX10.out).1).trans HX10.out)
    have HB11 := Lib.hid (HB10.out.trans (hb.mono HB10.out.size))
    clear hb hw11
    go_wp2_with fail
    refine (HPN.out w11 (HENV.out.later HB11.out)).mono ?_
    rintro e w12 ⟨a12, c12, rfl, hcv12, hb⟩
    have hx12 := (hb.block _ (Array.getElem?_eq_some_iff.1 HX11.out).1).trans HX11.out
    obtain ⟨b0, b1, b2, b3⟩ := cells_four hx12
    have HB12 := Lib.hid (HB11.out.trans (hb.mono HB11.out.size))
    clear hb hx12
    go_wp2_with fail
    refine (num_law _ _).mono ?_
    rintro e w13 ⟨rfl, rfl⟩
    go_wp2_with fail
    refine (num_law _ _).mono ?_
    rintro e w13 ⟨rfl, rfl⟩
    go_wp2_with fail
    refine (awake_any _ (HENV.out.later HB12.out)).mono ?_
    rintro e w13 ⟨rfl, hb⟩
    have HB13 := Lib.hid (HB12.out.trans (hb.mono HB12.out.size))
    clear hb
    go_wp2_with fail
    go_ret
    exact ⟨rfl, HB13.out⟩
  · rw [hk] at hkt
    have HGB := Lib.hid (fun W hE => get_bad5 [58, 57, 50, 50, 51, 51, 55, 50, 48, 51, 54, 56, 53, 52, 55, 55, 53, 56, 48, 56, 13, 10] (by decide) Rp.bad7 W hE)
    have cX : ∀ W, (convert 9 28 (.string ⟨#[58, 57, 50, 50, 51, 51, 55, 50, 48, 51, 54, 56, 53, 52, 55, 55, 53, 56, 48, 56, 13, 10]⟩)).run Tryd.prog W = .ok (.slice (some ⟨W.heap.size, 0, none⟩) 22 (capS W [58, 57, 50, 50, 51, 51, 55, 50, 48, 51, 54, 56, 53, 52, 55, 55, 53, 56, 48, 56, 13, 10])) (Lib.bytesWorld W 5 ⟨#[58, 57, 50, 50, 51, 51, 55, 50, 48, 51, 54, 56, 53, 52, 55, 55, 53, 56, 48, 56, 13, 10]⟩) := fun W => sb_conv W [58, 57, 50, 50, 51, 51, 55, 50, 48, 51, 54, 56, 53, 52, 55, 55, 53, 56, 48, 56, 13, 10]
    clear hk
    go_enter Tryd.func9, Tryd.ntmps9
    go_wp2_with fail
    refine (HD.out _).mono ?_
    rintro e w1 ⟨rfl, hb⟩
    have HB1 := Lib.hid hb
    clear hb
    go_wp2_with fail
    refine (HGN.out w1 (HENV.out.later HB1.out)).mono ?_
    rintro e w2 ⟨a2, c2, rfl, hb⟩
    have HB2 := Lib.hid (HB1.out.trans (hb.mono HB1.out.size))
    clear hb cS
    go_upto_region 3 with (fail)
    obtain ⟨w3, hw3⟩ : ∃ w3, w2.alloc (.cells #[.int .i64 3, .string ⟨#[]⟩, .int .i64 n, .slice a2 0 c2] 24) = w3 := ⟨_, rfl⟩
    have hx := World.alloc_heap_new w2 (.cells #[.int .i64 3, .string ⟨#[]⟩, .int .i64 n, .slice a2 0 c2] 24)
    have hb : Below w2.heap.size w2 w3 := by rw [← hw3]; exact (Below.refl _ w2).alloc (Nat.le_refl _) _
    rw [hw3] at hx ⊢
    have HX3 := Lib.hid hx
    have HB3 := Lib.hid (HB2.out.trans (hb.mono HB2.out.size))
    clear hb hx hw3
    go_wp2_with fail
    refine (HD.out _).mono ?_
    rintro e w4 ⟨rfl, hb⟩
    have HX4 := Lib.hid ((hb.block _ (Array.getElem?_eq_some_iff.1 HX3.out).1).trans HX3.out)
    have HB4 := Lib.hid (HB3.out.trans (hb.mono HB3.out.size))
    clear hb
    go_wp2_with fail
    refine (HD.out _).mono ?_
    rintro e w5 ⟨rfl, hb⟩
    have HX5 := Lib.hid ((hb.block _ (Array.getElem?_eq_some_iff.1 HX4.out).1).trans HX4.out)
    have HB5 := Lib.hid (HB4.out.trans (hb.mono HB4.out.size))
    clear hb
    go_wp2_with fail
    refine (HD.out _).mono ?_
    rintro e w6 ⟨rfl, hb⟩
    have HX6 := Lib.hid ((hb.block _ (Array.getElem?_eq_some_iff.1 HX5.out).1).trans HX5.out)
    have HB6 := Lib.hid (HB5.out.trans (hb.mono HB5.out.size))
    clear hb
    go_wp2_with fail
    refine (HD.out _).mono ?_
    rintro e w7 ⟨rfl, hb⟩
    have HX7 := Lib.hid ((hb.block _ (Array.getElem?_eq_some_iff.1 HX6.out).1).trans HX6.out)
    have HB7 := Lib.hid (HB6.out.trans (hb.mono HB6.out.size))
    clear hb
    go_wp2_with fail
    refine (HDM.out _).mono ?_
    rintro e w8 ⟨rfl, hb⟩
    have HX8 := Lib.hid ((hb.block _ (Array.getElem?_eq_some_iff.1 HX7.out).1).trans HX7.out)
    have HB8 := Lib.hid (HB7.out.trans (hb.mono HB7.out.size))
    clear hb
    go_upto_region 4 with (fail)
    obtain ⟨w9, hw9⟩ : ∃ w9, w8.alloc (.cells #[.string ⟨X0.toArray⟩, .string ⟨X1.toArray⟩, .string ⟨X2.toArray⟩, .string ⟨#[58, 13, 10]⟩, .string ⟨#[58, 45, 13, 10]⟩, .string ⟨#[58, 45, 45, 49, 13, 10]⟩, .string ⟨#[58, 45, 48, 13, 10]⟩, .string ⟨#[58, 57, 50, 50, 51, 51, 55, 50, 48, 51, 54, 56, 53, 52, 55, 55, 53, 56, 48, 56, 13, 10]⟩, .string ⟨#[58, 45, 57, 50, 50, 51, 51, 55, 50, 48, 51, 54, 56, 53, 52, 55, 55, 53, 56, 48, 57, 13, 10]⟩, .string ⟨X9.toArray⟩, .string ⟨X10.toArray⟩, .string ⟨#[42, 45, 49, 13, 10]⟩] 9) = w9 := ⟨_, rfl⟩
    have hx := World.alloc_heap_new w8 (.cells #[.string ⟨X0.toArray⟩, .string ⟨X1.toArray⟩, .string ⟨X2.toArray⟩, .string ⟨#[58, 13, 10]⟩, .string ⟨#[58, 45, 13, 10]⟩, .string ⟨#[58, 45, 45, 49, 13, 10]⟩, .string ⟨#[58, 45, 48, 13, 10]⟩, .string ⟨#[58, 57, 50, 50, 51, 51, 55, 50, 48, 51, 54, 56, 53, 52, 55, 55, 53, 56, 48, 56, 13, 10]⟩, .string ⟨#[58, 45, 57, 50, 50, 51, 51, 55, 50, 48, 51, 54, 56, 53, 52, 55, 55, 53, 56, 48, 57, 13, 10]⟩, .string ⟨X9.toArray⟩, .string ⟨X10.toArray⟩, .string ⟨#[42, 45, 49, 13, 10]⟩] 9)
    have hb : Below w8.heap.size w8 w9 := by rw [← hw9]; exact (Below.refl _ w8).alloc (Nat.le_refl _) _
    rw [hw9] at hx ⊢
    have hcell : w9.cell? ⟨w8.heap.size, 7, none⟩ = some (.string ⟨#[58, 57, 50, 50, 51, 51, 55, 50, 48, 51, 54, 56, 53, 52, 55, 55, 53, 56, 48, 56, 13, 10]⟩) := by simp [World.cell?, hx]
    have HX9 := Lib.hid ((hb.block _ (Array.getElem?_eq_some_iff.1 HX8.out).1).trans HX8.out)
    have HB9 := Lib.hid (HB8.out.trans (hb.mono HB8.out.size))
    clear hb hx hw9
    go_wp2_with fail
    refine (HGB.out w9 (HENV.out.later HB9.out)).mono ?_
    rintro e w10 ⟨rfl, hb⟩
    have HX10 := Lib.hid ((hb.block _ (Array.getElem?_eq_some_iff.1 HX9.out).1).trans HX9.out)
    have HB10 := Lib.hid (HB9.out.trans (hb.mono HB9.out.size))
    clear hb cX hcell
    go_upto_region 5 with (fail)
    obtain ⟨w11, hw11⟩ : ∃ w11, w10.alloc (.cells #[.int .i64 0, .string ⟨#[]⟩, .int .i64 0, .slice none 0 0] 24) = w11 := ⟨_, rfl⟩
    have hb : Below w10.heap.size w10 w11 := by rw [← hw11]; exact (Below.refl _ w10).alloc (Nat.le_refl _) _
    rw [hw11]
    have HX11 := Lib.hid ((hb.block _ (Array.getElem?_eq_some_iff.1 HX10.out).1).trans HX10.out)
    have HB11 := Lib.hid (HB10.out.trans (hb.mono HB10.out.size))
    clear hb hw11
    go_wp2_with fail
    refine (HPN.out w11 (HENV.out.later HB11.out)).mono ?_
    rintro e w12 ⟨a12, c12, rfl, hcv12, hb⟩
    have hx12 := (hb.block _ (Array.getElem?_eq_some_iff.1 HX11.out).1).trans HX11.out
    obtain ⟨b0, b1, b2, b3⟩ := cells_four hx12
    have HB12 := Lib.hid (HB11.out.trans (hb.mono HB11.out.size))
    clear hb hx12
    go_wp2_with fail
    refine (num_law _ _).mono ?_
    rintro e w13 ⟨rfl, rfl⟩
    go_wp2_with fail
    refine (num_law _ _).mono ?_
    rintro e w13 ⟨rfl, rfl⟩
    go_wp2_with fail
    refine (awake_any _ (HENV.out.later HB12.out)).mono ?_
    rintro e w13 ⟨rfl, hb⟩
    have HB13 := Lib.hid (HB12.out.trans (hb.mono HB12.out.size))
    clear hb
    go_wp2_with fail
    go_ret
    exact ⟨rfl, HB13.out⟩
  · rw [hk] at hkt
    have HGB := Lib.hid (fun W hE => get_bad5 [58, 45, 57, 50, 50, 51, 51, 55, 50, 48, 51, 54, 56, 53, 52, 55, 55, 53, 56, 48, 57, 13, 10] (by decide) Rp.bad8 W hE)
    have cX : ∀ W, (convert 9 28 (.string ⟨#[58, 45, 57, 50, 50, 51, 51, 55, 50, 48, 51, 54, 56, 53, 52, 55, 55, 53, 56, 48, 57, 13, 10]⟩)).run Tryd.prog W = .ok (.slice (some ⟨W.heap.size, 0, none⟩) 23 (capS W [58, 45, 57, 50, 50, 51, 51, 55, 50, 48, 51, 54, 56, 53, 52, 55, 55, 53, 56, 48, 57, 13, 10])) (Lib.bytesWorld W 5 ⟨#[58, 45, 57, 50, 50, 51, 51, 55, 50, 48, 51, 54, 56, 53, 52, 55, 55, 53, 56, 48, 57, 13, 10]⟩) := fun W => sb_conv W [58, 45, 57, 50, 50, 51, 51, 55, 50, 48, 51, 54, 56, 53, 52, 55, 55, 53, 56, 48, 57, 13, 10]
    clear hk
    go_enter Tryd.func9, Tryd.ntmps9
    go_wp2_with fail
    refine (HD.out _).mono ?_
    rintro e w1 ⟨rfl, hb⟩
    have HB1 := Lib.hid hb
    clear hb
    go_wp2_with fail
    refine (HGN.out w1 (HENV.out.later HB1.out)).mono ?_
    rintro e w2 ⟨a2, c2, rfl, hb⟩
    have HB2 := Lib.hid (HB1.out.trans (hb.mono HB1.out.size))
    clear hb cS
    go_upto_region 3 with (fail)
    obtain ⟨w3, hw3⟩ : ∃ w3, w2.alloc (.cells #[.int .i64 3, .string ⟨#[]⟩, .int .i64 n, .slice a2 0 c2] 24) = w3 := ⟨_, rfl⟩
    have hx := World.alloc_heap_new w2 (.cells #[.int .i64 3, .string ⟨#[]⟩, .int .i64 n, .slice a2 0 c2] 24)
    have hb : Below w2.heap.size w2 w3 := by rw [← hw3]; exact (Below.refl _ w2).alloc (Nat.le_refl _) _
    rw [hw3] at hx ⊢
    have HX3 := Lib.hid hx
    have HB3 := Lib.hid (HB2.out.trans (hb.mono HB2.out.size))
    clear hb hx hw3
    go_wp2_with fail
    refine (HD.out _).mono ?_
    rintro e w4 ⟨rfl, hb⟩
    have HX4 := Lib.hid ((hb.block _ (Array.getElem?_eq_some_iff.1 HX3.out).1).trans HX3.out)
    have HB4 := Lib.hid (HB3.out.trans (hb.mono HB3.out.size))
    clear hb
    go_wp2_with fail
    refine (HD.out _).mono ?_
    rintro e w5 ⟨rfl, hb⟩
    have HX5 := Lib.hid ((hb.block _ (Array.getElem?_eq_some_iff.1 HX4.out).1).trans HX4.out)
    have HB5 := Lib.hid (HB4.out.trans (hb.mono HB4.out.size))
    clear hb
    go_wp2_with fail
    refine (HD.out _).mono ?_
    rintro e w6 ⟨rfl, hb⟩
    have HX6 := Lib.hid ((hb.block _ (Array.getElem?_eq_some_iff.1 HX5.out).1).trans HX5.out)
    have HB6 := Lib.hid (HB5.out.trans (hb.mono HB5.out.size))
    clear hb
    go_wp2_with fail
    refine (HD.out _).mono ?_
    rintro e w7 ⟨rfl, hb⟩
    have HX7 := Lib.hid ((hb.block _ (Array.getElem?_eq_some_iff.1 HX6.out).1).trans HX6.out)
    have HB7 := Lib.hid (HB6.out.trans (hb.mono HB6.out.size))
    clear hb
    go_wp2_with fail
    refine (HDM.out _).mono ?_
    rintro e w8 ⟨rfl, hb⟩
    have HX8 := Lib.hid ((hb.block _ (Array.getElem?_eq_some_iff.1 HX7.out).1).trans HX7.out)
    have HB8 := Lib.hid (HB7.out.trans (hb.mono HB7.out.size))
    clear hb
    go_upto_region 4 with (fail)
    obtain ⟨w9, hw9⟩ : ∃ w9, w8.alloc (.cells #[.string ⟨X0.toArray⟩, .string ⟨X1.toArray⟩, .string ⟨X2.toArray⟩, .string ⟨#[58, 13, 10]⟩, .string ⟨#[58, 45, 13, 10]⟩, .string ⟨#[58, 45, 45, 49, 13, 10]⟩, .string ⟨#[58, 45, 48, 13, 10]⟩, .string ⟨#[58, 57, 50, 50, 51, 51, 55, 50, 48, 51, 54, 56, 53, 52, 55, 55, 53, 56, 48, 56, 13, 10]⟩, .string ⟨#[58, 45, 57, 50, 50, 51, 51, 55, 50, 48, 51, 54, 56, 53, 52, 55, 55, 53, 56, 48, 57, 13, 10]⟩, .string ⟨X9.toArray⟩, .string ⟨X10.toArray⟩, .string ⟨#[42, 45, 49, 13, 10]⟩] 9) = w9 := ⟨_, rfl⟩
    have hx := World.alloc_heap_new w8 (.cells #[.string ⟨X0.toArray⟩, .string ⟨X1.toArray⟩, .string ⟨X2.toArray⟩, .string ⟨#[58, 13, 10]⟩, .string ⟨#[58, 45, 13, 10]⟩, .string ⟨#[58, 45, 45, 49, 13, 10]⟩, .string ⟨#[58, 45, 48, 13, 10]⟩, .string ⟨#[58, 57, 50, 50, 51, 51, 55, 50, 48, 51, 54, 56, 53, 52, 55, 55, 53, 56, 48, 56, 13, 10]⟩, .string ⟨#[58, 45, 57, 50, 50, 51, 51, 55, 50, 48, 51, 54, 56, 53, 52, 55, 55, 53, 56, 48, 57, 13, 10]⟩, .string ⟨X9.toArray⟩, .string ⟨X10.toArray⟩, .string ⟨#[42, 45, 49, 13, 10]⟩] 9)
    have hb : Below w8.heap.size w8 w9 := by rw [← hw9]; exact (Below.refl _ w8).alloc (Nat.le_refl _) _
    rw [hw9] at hx ⊢
    have hcell : w9.cell? ⟨w8.heap.size, 8, none⟩ = some (.string ⟨#[58, 45, 57, 50, 50, 51, 51, 55, 50, 48, 51, 54, 56, 53, 52, 55, 55, 53, 56, 48, 57, 13, 10]⟩) := by simp [World.cell?, hx]
    have HX9 := Lib.hid ((hb.block _ (Array.getElem?_eq_some_iff.1 HX8.out).1).trans HX8.out)
    have HB9 := Lib.hid (HB8.out.trans (hb.mono HB8.out.size))
    clear hb hx hw9
    go_wp2_with fail
    refine (HGB.out w9 (HENV.out.later HB9.out)).mono ?_
    rintro e w10 ⟨rfl, hb⟩
    have HX10 := Lib.hid ((hb.block _ (Array.getElem?_eq_some_iff.1 HX9.out).1).trans HX9.out)
    have HB10 := Lib.hid (HB9.out.trans (hb.mono HB9.out.size))
    clear hb cX hcell
    go_upto_region 5 with (fail)
    obtain ⟨w11, hw11⟩ : ∃ w11, w10.alloc (.cells #[.int .i64 0, .string ⟨#[]⟩, .int .i64 0, .slice none 0 0] 24) = w11 := ⟨_, rfl⟩
    have hb : Below w10.heap.size w10 w11 := by rw [← hw11]; exact (Below.refl _ w10).alloc (Nat.le_refl _) _
    rw [hw11]
    have HX11 := Lib.hid ((hb.block _ (Array.getElem?_eq_some_iff.1 HX10.out).1).trans HX10.out)
    have HB11 := Lib.hid (HB10.out.trans (hb.mono HB10.out.size))
    clear hb hw11
    go_wp2_with fail
    refine (HPN.out w11 (HENV.out.later HB11.out)).mono ?_
    rintro e w12 ⟨a12, c12, rfl, hcv12, hb⟩
    have hx12 := (hb.block _ (Array.getElem?_eq_some_iff.1 HX11.out).1).trans HX11.out
    obtain ⟨b0, b1, b2, b3⟩ := cells_four hx12
    have HB12 := Lib.hid (HB11.out.trans (hb.mono HB11.out.size))
    clear hb hx12
    go_wp2_with fail
    refine (num_law _ _).mono ?_
    rintro e w13 ⟨rfl, rfl⟩
    go_wp2_with fail
    refine (num_law _ _).mono ?_
    rintro e w13 ⟨rfl, rfl⟩
    go_wp2_with fail
    refine (awake_any _ (HENV.out.later HB12.out)).mono ?_
    rintro e w13 ⟨rfl, hb⟩
    have HB13 := Lib.hid (HB12.out.trans (hb.mono HB12.out.size))
    clear hb
    go_wp2_with fail
    go_ret
    exact ⟨rfl, HB13.out⟩
  · rw [hk] at hkt
    have HGB := Lib.hid (fun W hE => get_bad5 X9 (by omega) HY.out.2.2.2.1 W hE)
    have cX : ∀ W, (convert 9 28 (.string ⟨X9.toArray⟩)).run Tryd.prog W = .ok (.slice (some ⟨W.heap.size, 0, none⟩) X9.length (capS W X9)) (Lib.bytesWorld W 5 ⟨X9.toArray⟩) := fun W => sb_conv W X9
    clear hk
    go_enter Tryd.func9, Tryd.ntmps9
    go_wp2_with fail
    refine (HD.out _).mono ?_
    rintro e w1 ⟨rfl, hb⟩
    have HB1 := Lib.hid hb
    clear hb
    go_wp2_with fail
    refine (HGN.out w1 (HENV.out.later HB1.out)).mono ?_
    rintro e w2 ⟨a2, c2, rfl, hb⟩
    have HB2 := Lib.hid (HB1.out.trans (hb.mono HB1.out.size))
    clear hb cS
    go_upto_region 3 with (fail)
    obtain ⟨w3, hw3⟩ : ∃ w3, w2.alloc (.cells #[.int .i64 3, .string ⟨#[]⟩, .int .i64 n, .slice a2 0 c2] 24) = w3 := ⟨_, rfl⟩
    have hx := World.alloc_heap_new w2 (.cells #[.int .i64 3, .string ⟨#[]⟩, .int .i64 n, .slice a2 0 c2] 24)
    have hb : Below w2.heap.size w2 w3 := by rw [← hw3]; exact (Below.refl _ w2).alloc (Nat.le_refl _) _
    rw [hw3] at hx ⊢
    have HX3 := Lib.hid hx
    have HB3 := Lib.hid (HB2.out.trans (hb.mono HB2.out.size))
    clear hb hx hw3
    go_wp2_with fail
    refine (HD.out _).mono ?_
    rintro e w4 ⟨rfl, hb⟩
    have HX4 := Lib.hid ((hb.block _ (Array.getElem?_eq_some_iff.1 HX3.out).1).trans HX3.out)
    have HB4 := Lib.hid (HB3.out.trans (hb.mono HB3.out.size))
    clear hb
    go_wp2_with fail
    refine (HD.out _).mono ?_
    rintro e w5 ⟨rfl, hb⟩
    have HX5 := Lib.hid ((hb.block _ (Array.getElem?_eq_some_iff.1 HX4.out).1).trans HX4.out)
    have HB5 := Lib.hid (HB4.out.trans (hb.mono HB4.out.size))
    clear hb
    go_wp2_with fail
    refine (HD.out _).mono ?_
    rintro e w6 ⟨rfl, hb⟩
    have HX6 := Lib.hid ((hb.block _ (Array.getElem?_eq_some_iff.1 HX5.out).1).trans HX5.out)
    have HB6 := Lib.hid (HB5.out.trans (hb.mono HB5.out.size))
    clear hb
    go_wp2_with fail
    refine (HD.out _).mono ?_
    rintro e w7 ⟨rfl, hb⟩
    have HX7 := Lib.hid ((hb.block _ (Array.getElem?_eq_some_iff.1 HX6.out).1).trans HX6.out)
    have HB7 := Lib.hid (HB6.out.trans (hb.mono HB6.out.size))
    clear hb
    go_wp2_with fail
    refine (HDM.out _).mono ?_
    rintro e w8 ⟨rfl, hb⟩
    have HX8 := Lib.hid ((hb.block _ (Array.getElem?_eq_some_iff.1 HX7.out).1).trans HX7.out)
    have HB8 := Lib.hid (HB7.out.trans (hb.mono HB7.out.size))
    clear hb
    go_upto_region 4 with (fail)
    obtain ⟨w9, hw9⟩ : ∃ w9, w8.alloc (.cells #[.string ⟨X0.toArray⟩, .string ⟨X1.toArray⟩, .string ⟨X2.toArray⟩, .string ⟨#[58, 13, 10]⟩, .string ⟨#[58, 45, 13, 10]⟩, .string ⟨#[58, 45, 45, 49, 13, 10]⟩, .string ⟨#[58, 45, 48, 13, 10]⟩, .string ⟨#[58, 57, 50, 50, 51, 51, 55, 50, 48, 51, 54, 56, 53, 52, 55, 55, 53, 56, 48, 56, 13, 10]⟩, .string ⟨#[58, 45, 57, 50, 50, 51, 51, 55, 50, 48, 51, 54, 56, 53, 52, 55, 55, 53, 56, 48, 57, 13, 10]⟩, .string ⟨X9.toArray⟩, .string ⟨X10.toArray⟩, .string ⟨#[42, 45, 49, 13, 10]⟩] 9) = w9 := ⟨_, rfl⟩
    have hx := World.alloc_heap_new w8 (.cells #[.string ⟨X0.toArray⟩, .string ⟨X1.toArray⟩, .string ⟨X2.toArray⟩, .string ⟨#[58, 13, 10]⟩, .string ⟨#[58, 45, 13, 10]⟩, .string ⟨#[58, 45, 45, 49, 13, 10]⟩, .string ⟨#[58, 45, 48, 13, 10]⟩, .string ⟨#[58, 57, 50, 50, 51, 51, 55, 50, 48, 51, 54, 56, 53, 52, 55, 55, 53, 56, 48, 56, 13, 10]⟩, .string ⟨#[58, 45, 57, 50, 50, 51, 51, 55, 50, 48, 51, 54, 56, 53, 52, 55, 55, 53, 56, 48, 57, 13, 10]⟩, .string ⟨X9.toArray⟩, .string ⟨X10.toArray⟩, .string ⟨#[42, 45, 49, 13, 10]⟩] 9)
    have hb : Below w8.heap.size w8 w9 := by rw [← hw9]; exact (Below.refl _ w8).alloc (Nat.le_refl _) _
    rw [hw9] at hx ⊢
    have hcell : w9.cell? ⟨w8.heap.size, 9, none⟩ = some (.string ⟨X9.toArray⟩) := by simp [World.cell?, hx]
    have HX9 := Lib.hid ((hb.block _ (Array.getElem?_eq_some_iff.1 HX8.out).1).trans HX8.out)
    have HB9 := Lib.hid (HB8.out.trans (hb.mono HB8.out.size))
    clear hb hx hw9
    go_wp2_with fail
    refine (HGB.out w9 (HENV.out.later HB9.out)).mono ?_
    rintro e w10 ⟨rfl, hb⟩
    have HX10 := Lib.hid ((hb.block _ (Array.getElem?_eq_some_iff.1 HX9.out).1).trans HX9.out)
    have HB10 := Lib.hid (HB9.out.trans (hb.mono HB9.out.size))
    clear hb cX hcell
    go_upto_region 5 with (fail)
    obtain ⟨w11, hw11⟩ : ∃ w11, w10.alloc (.cells #[.int .i64 0, .string ⟨#[]⟩, .int .i64 0, .slice none 0 0] 24) = w11 := ⟨_, rfl⟩
    have hb : Below w10.heap.size w10 w11 := by rw [← hw11]; exact (Below.refl _ w10).alloc (Nat.le_refl _) _
    rw [hw11]
    have HX11 := Lib.hid ((hb.block _ (Array.getElem?_eq_some_iff.1 HX10.out).1).trans HX10.out)
    have HB11 := Lib.hid (HB10.out.trans (hb.mono HB10.out.size))
    clear hb hw11
    go_wp2_with fail
    refine (HPN.out w11 (HENV.out.later HB11.out)).mono ?_
    rintro e w12 ⟨a12, c12, rfl, hcv12, hb⟩
    have hx12 := (hb.block _ (Array.getElem?_eq_some_iff.1 HX11.out).1).trans HX11.out
    obtain ⟨b0, b1, b2, b3⟩ := cells_four hx12
    have HB12 := Lib.hid (HB11.out.trans (hb.mono HB11.out.size))
    clear hb hx12
    go_wp2_with fail
    refine (num_law _ _).mono ?_
    rintro e w13 ⟨rfl, rfl⟩
    go_wp2_with fail
    refine (num_law _ _).mono ?_
    rintro e w13 ⟨rfl, rfl⟩
    go_wp2_with fail
    refine (awake_any _ (HENV.out.later HB12.out)).mono ?_
    rintro e w13 ⟨rfl, hb⟩
    have HB13 := Lib.hid (HB12.out.trans (hb.mono HB12.out.size))
    clear hb
    go_wp2_with fail
    go_ret
    exact ⟨rfl, HB13.out⟩
  · rw [hk] at hkt
    have HGB := Lib.hid (fun W hE => get_bad5 X10 (by omega) HY.out.2.2.2.2 W hE)
    have cX : ∀ W, (convert 9 28 (.string ⟨X10.toArray⟩)).run Tryd.prog W = .ok (.slice (some ⟨W.heap.size, 0, none⟩) X10.length (capS W X10)) (Lib.bytesWorld W 5 ⟨X10.toArray⟩) := fun W => sb_conv W X10
    clear hk
    go_enter Tryd.func9, Tryd.ntmps9
    go_wp2_with fail
    refine (HD.out _).mono ?_
    rintro e w1 ⟨rfl, hb⟩
    have HB1 := Lib.hid hb
    clear hb
    go_wp2_with fail
    refine (HGN.out w1 (HENV.out.later HB1.out)).mono ?_
    rintro e w2 ⟨a2, c2, rfl, hb⟩
    have HB2 := Lib.hid (HB1.out.trans (hb.mono HB1.out.size))
    clear hb cS
    go_upto_region 3 with (fail)
    obtain ⟨w3, hw3⟩ : ∃ w3, w2.alloc (.cells #[.int .i64 3, .string ⟨#[]⟩, .int .i64 n, .slice a2 0 c2] 24) = w3 := ⟨_, rfl⟩
    have hx := World.alloc_heap_new w2 (.cells #[.int .i64 3, .string ⟨#[]⟩, .int .i64 n, .slice a2 0 c2] 24)
    have hb : Below w2.heap.size w2 w3 := by rw [← hw3]; exact (Below.refl _ w2).alloc (Nat.le_refl _) _
    rw [hw3] at hx ⊢
    have HX3 := Lib.hid hx
    have HB3 := Lib.hid (HB2.out.trans (hb.mono HB2.out.size))
    clear hb hx hw3
    go_wp2_with fail
    refine (HD.out _).mono ?_
    rintro e w4 ⟨rfl, hb⟩
    have HX4 := Lib.hid ((hb.block _ (Array.getElem?_eq_some_iff.1 HX3.out).1).trans HX3.out)
    have HB4 := Lib.hid (HB3.out.trans (hb.mono HB3.out.size))
    clear hb
    go_wp2_with fail
    refine (HD.out _).mono ?_
    rintro e w5 ⟨rfl, hb⟩
    have HX5 := Lib.hid ((hb.block _ (Array.getElem?_eq_some_iff.1 HX4.out).1).trans HX4.out)
    have HB5 := Lib.hid (HB4.out.trans (hb.mono HB4.out.size))
    clear hb
    go_wp2_with fail
    refine (HD.out _).mono ?_
    rintro e w6 ⟨rfl, hb⟩
    have HX6 := Lib.hid ((hb.block _ (Array.getElem?_eq_some_iff.1 HX5.out).1).trans HX5.out)
    have HB6 := Lib.hid (HB5.out.trans (hb.mono HB5.out.size))
    clear hb
    go_wp2_with fail
    refine (HD.out _).mono ?_
    rintro e w7 ⟨rfl, hb⟩
    have HX7 := Lib.hid ((hb.block _ (Array.getElem?_eq_some_iff.1 HX6.out).1).trans HX6.out)
    have HB7 := Lib.hid (HB6.out.trans (hb.mono HB6.out.size))
    clear hb
    go_wp2_with fail
    refine (HDM.out _).mono ?_
    rintro e w8 ⟨rfl, hb⟩
    have HX8 := Lib.hid ((hb.block _ (Array.getElem?_eq_some_iff.1 HX7.out).1).trans HX7.out)
    have HB8 := Lib.hid (HB7.out.trans (hb.mono HB7.out.size))
    clear hb
    go_upto_region 4 with (fail)
    obtain ⟨w9, hw9⟩ : ∃ w9, w8.alloc (.cells #[.string ⟨X0.toArray⟩, .string ⟨X1.toArray⟩, .string ⟨X2.toArray⟩, .string ⟨#[58, 13, 10]⟩, .string ⟨#[58, 45, 13, 10]⟩, .string ⟨#[58, 45, 45, 49, 13, 10]⟩, .string ⟨#[58, 45, 48, 13, 10]⟩, .string ⟨#[58, 57, 50, 50, 51, 51, 55, 50, 48, 51, 54, 56, 53, 52, 55, 55, 53, 56, 48, 56, 13, 10]⟩, .string ⟨#[58, 45, 57, 50, 50, 51, 51, 55, 50, 48, 51, 54, 56, 53, 52, 55, 55, 53, 56, 48, 57, 13, 10]⟩, .string ⟨X9.toArray⟩, .string ⟨X10.toArray⟩, .string ⟨#[42, 45, 49, 13, 10]⟩] 9) = w9 := ⟨_, rfl⟩
    have hx := World.alloc_heap_new w8 (.cells #[.string ⟨X0.toArray⟩, .string ⟨X1.toArray⟩, .string ⟨X2.toArray⟩, .string ⟨#[58, 13, 10]⟩, .string ⟨#[58, 45, 13, 10]⟩, .string ⟨#[58, 45, 45, 49, 13, 10]⟩, .string ⟨#[58, 45, 48, 13, 10]⟩, .string ⟨#[58, 57, 50, 50, 51, 51, 55, 50, 48, 51, 54, 56, 53, 52, 55, 55, 53, 56, 48, 56, 13, 10]⟩, .string ⟨#[58, 45, 57, 50, 50, 51, 51, 55, 50, 48, 51, 54, 56, 53, 52, 55, 55, 53, 56, 48, 57, 13, 10]⟩, .string ⟨X9.toArray⟩, .string ⟨X10.toArray⟩, .string ⟨#[42, 45, 49, 13, 10]⟩] 9)
    have hb : Below w8.heap.size w8 w9 := by rw [← hw9]; exact (Below.refl _ w8).alloc (Nat.le_refl _) _
    rw [hw9] at hx ⊢
    have hcell : w9.cell? ⟨w8.heap.size, 10, none⟩ = some (.string ⟨X10.toArray⟩) := by simp [World.cell?, hx]
    have HX9 := Lib.hid ((hb.block _ (Array.getElem?_eq_some_iff.1 HX8.out).1).trans HX8.out)
    have HB9 := Lib.hid (HB8.out.trans (hb.mono HB8.out.size))
    clear hb hx hw9
    go_wp2_with fail
    refine (HGB.out w9 (HENV.out.later HB9.out)).mono ?_
    rintro e w10 ⟨rfl, hb⟩
    have HX10 := Lib.hid ((hb.block _ (Array.getElem?_eq_some_iff.1 HX9.out).1).trans HX9.out)
    have HB10 := Lib.hid (HB9.out.trans (hb.mono HB9.out.size))
    clear hb cX hcell
    go_upto_region 5 with (fail)
    obtain ⟨w11, hw11⟩ : ∃ w11, w10.alloc (.cells #[.int .i64 0, .string ⟨#[]⟩, .int .i64 0, .slice none 0 0] 24) = w11 := ⟨_, rfl⟩
    have hb : Below w10.heap.size w10 w11 := by rw [← hw11]; exact (Below.refl _ w10).alloc (Nat.le_refl _) _
    rw [hw11]
    have HX11 := Lib.hid ((hb.block _ (Array.getElem?_eq_some_iff.1 HX10.out).1).trans HX10.out)
    have HB11 := Lib.hid (HB10.out.trans (hb.mono HB10.out.size))
    clear hb hw11
    go_wp2_with fail
    refine (HPN.out w11 (HENV.out.later HB11.out)).mono ?_
    rintro e w12 ⟨a12, c12, rfl, hcv12, hb⟩
    have hx12 := (hb.block _ (Array.getElem?_eq_some_iff.1 HX11.out).1).trans HX11.out
    obtain ⟨b0, b1, b2, b3⟩ := cells_four hx12
    have HB12 := Lib.hid (HB11.out.trans (hb.mono HB11.out.size))
    clear hb hx12
    go_wp2_with fail
    refine (num_law _ _).mono ?_
    rintro e w13 ⟨rfl, rfl⟩
    go_wp2_with fail
    refine (num_law _ _).mono ?_
    rintro e w13 ⟨rfl, rfl⟩
    go_wp2_with fail
    refine (awake_any _ (HENV.out.later HB12.out)).mono ?_
    rintro e w13 ⟨rfl, hb⟩
    have HB13 := Lib.hid (HB12.out.trans (hb.mono HB12.out.size))
    clear hb
    go_wp2_with fail
    go_ret
    exact ⟨rfl, HB13.out⟩
  · rw [hk] at hkt
    have HGB := Lib.hid (fun W hE => get_bad5 [42, 45, 49, 13, 10] (by decide) Rp.bad11 W hE)
    have cX : ∀ W, (convert 9 28 (.string ⟨#[42, 45, 49, 13, 10]⟩)).run Tryd.prog W = .ok (.slice (some ⟨W.heap.size, 0, none⟩) 5 (capS W [42, 45, 49, 13, 10])) (Lib.bytesWorld W 5 ⟨#[42, 45, 49, 13, 10]⟩) := fun W => sb_conv W [42, 45, 49, 13, 10]
    clear hk
    go_enter Tryd.func9, Tryd.ntmps9
    go_wp2_with fail
    refine (HD.out _).mono ?_
    rintro e w1 ⟨rfl, hb⟩
    have HB1 := Lib.hid hb
    clear hb
    go_wp2_with fail
    refine (HGN.out w1 (HENV.out.later HB1.out)).mono ?_
    rintro e w2 ⟨a2, c2, rfl, hb⟩
    have HB2 := Lib.hid (HB1.out.trans (hb.mono HB1.out.size))
    clear hb cS
    go_upto_region 3 with (fail)
    obtain ⟨w3, hw3⟩ : ∃ w3, w2.alloc (.cells #[.int .i64 3, .string ⟨#[]⟩, .int .i64 n, .slice a2 0 c2] 24) = w3 := ⟨_, rfl⟩
    have hx := World.alloc_heap_new w2 (.cells #[.int .i64 3, .string ⟨#[]⟩, .int .i64 n, .slice a2 0 c2] 24)
    have hb : Below w2.heap.size w2 w3 := by rw [← hw3]; exact (Below.refl _ w2).alloc (Nat.le_refl _) _
    rw [hw3] at hx ⊢
    have HX3 := Lib.hid hx
    have HB3 := Lib.hid (HB2.out.trans (hb.mono HB2.out.size))
    clear hb hx hw3
    go_wp2_with fail
    refine (HD.out _).mono ?_
    rintro e w4 ⟨rfl, hb⟩
    have HX4 := Lib.hid ((hb.block _ (Array.getElem?_eq_some_iff.1 HX3.out).1).trans HX3.out)
    have HB4 := Lib.hid (HB3.out.trans (hb.mono HB3.out.size))
    clear hb
    go_wp2_with fail
    refine (HD.out _).mono ?_
    rintro e w5 ⟨rfl, hb⟩
    have HX5 := Lib.hid ((hb.block _ (Array.getElem?_eq_some_iff.1 HX4.out).1).trans HX4.out)
    have HB5 := Lib.hid (HB4.out.trans (hb.mono HB4.out.size))
    clear hb
    go_wp2_with fail
    refine (HD.out _).mono ?_
    rintro e w6 ⟨rfl, hb⟩
    have HX6 := Lib.hid ((hb.block _ (Array.getElem?_eq_some_iff.1 HX5.out).1).trans HX5.out)
    have HB6 := Lib.hid (HB5.out.trans (hb.mono HB5.out.size))
    clear hb
    go_wp2_with fail
    refine (HD.out _).mono ?_
    rintro e w7 ⟨rfl, hb⟩
    have HX7 := Lib.hid ((hb.block _ (Array.getElem?_eq_some_iff.1 HX6.out).1).trans HX6.out)
    have HB7 := Lib.hid (HB6.out.trans (hb.mono HB6.out.size))
    clear hb
    go_wp2_with fail
    refine (HDM.out _).mono ?_
    rintro e w8 ⟨rfl, hb⟩
    have HX8 := Lib.hid ((hb.block _ (Array.getElem?_eq_some_iff.1 HX7.out).1).trans HX7.out)
    have HB8 := Lib.hid (HB7.out.trans (hb.mono HB7.out.size))
    clear hb
    go_upto_region 4 with (fail)
    obtain ⟨w9, hw9⟩ : ∃ w9, w8.alloc (.cells #[.string ⟨X0.toArray⟩, .string ⟨X1.toArray⟩, .string ⟨X2.toArray⟩, .string ⟨#[58, 13, 10]⟩, .string ⟨#[58, 45, 13, 10]⟩, .string ⟨#[58, 45, 45, 49, 13, 10]⟩, .string ⟨#[58, 45, 48, 13, 10]⟩, .string ⟨#[58, 57, 50, 50, 51, 51, 55, 50, 48, 51, 54, 56, 53, 52, 55, 55, 53, 56, 48, 56, 13, 10]⟩, .string ⟨#[58, 45, 57, 50, 50, 51, 51, 55, 50, 48, 51, 54, 56, 53, 52, 55, 55, 53, 56, 48, 57, 13, 10]⟩, .string ⟨X9.toArray⟩, .string ⟨X10.toArray⟩, .string ⟨#[42, 45, 49, 13, 10]⟩] 9) = w9 := ⟨_, rfl⟩
    have hx := World.alloc_heap_new w8 (.cells #[.string ⟨X0.toArray⟩, .string ⟨X1.toArray⟩, .string ⟨X2.toArray⟩, .string ⟨#[58, 13, 10]⟩, .string ⟨#[58, 45, 13, 10]⟩, .string ⟨#[58, 45, 45, 49, 13, 10]⟩, .string ⟨#[58, 45, 48, 13, 10]⟩, .string ⟨#[58, 57, 50, 50, 51, 51, 55, 50, 48, 51, 54, 56, 53, 52, 55, 55, 53, 56, 48, 56, 13, 10]⟩, .string ⟨#[58, 45, 57, 50, 50, 51, 51, 55, 50, 48, 51, 54, 56, 53, 52, 55, 55, 53, 56, 48, 57, 13, 10]⟩, .string ⟨X9.toArray⟩, .string ⟨X10.toArray⟩, .string ⟨#[42, 45, 49, 13, 10]⟩] 9)
    have hb : Below w8.heap.size w8 w9 := by rw [← hw9]; exact (Below.refl _ w8).alloc (Nat.le_refl _) _
    rw [hw9] at hx ⊢
    have hcell : w9.cell? ⟨w8.heap.size, 11, none⟩ = some (.string ⟨#[42, 45, 49, 13, 10]⟩) := by simp [World.cell?, hx]
    have HX9 := Lib.hid ((hb.block _ (Array.getElem?_eq_some_iff.1 HX8.out).1).trans HX8.out)
    have HB9 := Lib.hid (HB8.out.trans (hb.mono HB8.out.size))
    clear hb hx hw9
    go_wp2_with fail
    refine (HGB.out w9 (HENV.out.later HB9.out)).mono ?_
    rintro e w10 ⟨rfl, hb⟩
    have HX10 := Lib.hid ((hb.block _ (Array.getElem?_eq_some_iff.1 HX9.out).1).trans HX9.out)
    have HB10 := Lib.hid (HB9.out.trans (hb.mono HB9.out.size))
    clear hb cX hcell
    go_upto_region 5 with (fail)
    obtain ⟨w11, hw11⟩ : ∃ w11, w10.alloc (.cells #[.int .i64 0, .string ⟨#[]⟩, .int .i64 0, .slice none 0 0] 24) = w11 := ⟨_, rfl⟩
    have hb : Below w10.heap.size w10 w11 := by rw [← hw11]; exact (Below.refl _ w10).alloc (Nat.le_refl _) _
    rw [hw11]
    have HX11 := Lib.hid ((hb.block _ (Array.getElem?_eq_some_iff.1 HX10.out).1).trans HX10.out)
    have HB11 := Lib.hid (HB10.out.trans (hb.mono HB10.out.size))
    clear hb hw11
    go_wp2_with fail
    refine (HPN.out w11 (HENV.out.later HB11.out)).mono ?_
    rintro e w12 ⟨a12, c12, rfl, hcv12, hb⟩
    have hx12 := (hb.block _ (Array.getElem?_eq_some_iff.1 HX11.out).1).trans HX11.out
    obtain ⟨b0, b1, b2, b3⟩ := cells_four hx12
    have HB12 := Lib.hid (HB11.out.trans (hb.mono HB11.out.size))
    clear hb hx12
    go_wp2_with fail
    refine (num_law _ _).mono ?_
    rintro e w13 ⟨rfl, rfl⟩
    go_wp2_with fail
    refine (num_law _ _).mono ?_
    rintro e w13 ⟨rfl, rfl⟩
    go_wp2_with fail
    refine (awake_any _ (HENV.out.later HB12.out)).mono ?_
    rintro e w13 ⟨rfl, hb⟩
    have HB13 := Lib.hid (HB12.out.trans (hb.mono HB12.out.size))
    clear hb
    go_wp2_with fail
    go_ret
    exact ⟨rfl, HB13.out⟩
end Go.Proofs.YtcplfengdenllaaDoor
