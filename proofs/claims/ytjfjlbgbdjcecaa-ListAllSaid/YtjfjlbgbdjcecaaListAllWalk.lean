/- The walk of ListAll: of any rows, what the program tells and makes is what the reference tells and makes. -/
import Derived.Test.YtjfjlbgbdjcecaaLsRefRem
import Derived.Test.YtjfjlbgbdjcecaaLsTexts
import Derived.Test.YtjfjlbgbdjcecaaLsAwake
namespace Go.Proofs.Ytjfjlbgbdjcecaa
open Go.RowKit Go.Shelf
set_option linter.unusedVariables false
set_option linter.unusedSimpArgs false

/-- words in a row behind a world that came before. -/
def WdsV (w : World) (u : Value) (l : List Ls.Bs) (W : World) : Prop := ∃ a c, u = .slice a l.length c ∧ Wds W a c l
theorem RowW.wv {w W : World} {u : Value} {l : List Ls.Bs} (h : RowW w u l W) (hs : ∀ s ∈ l, s.length ≤ 9223372036854775807) : ∃ a c, u = .slice a l.length c ∧ Wds W a c l := h.words hs
theorem Box2.cells_later {A B : World} {b : Nat} {T : TypeId} {x y : Value} (h : Box2 A b T x y) (hb : Below A.heap.size A B) : B.cell? ⟨b, 0, none⟩ = some x ∧ B.cell? ⟨b, 1, none⟩ = some y := by
  have hlt : b < A.heap.size := (Array.getElem?_eq_some_iff.1 h).1
  obtain ⟨h0, h1, _, _⟩ := h.at
  exact ⟨(hb.cell (p := ⟨b, 0, none⟩) hlt).trans h0, (hb.cell (p := ⟨b, 1, none⟩) hlt).trans h1⟩

set_option maxRecDepth 100000 in
set_option maxHeartbeats 16000000 in
theorem listAll_walk (a : Option Addr) (cap : Nat) (ws : List Ls.Bs) (b : Option Addr) (d : Nat) (vs : List Ls.Bs) (front : Bool) (i k : Int) (s : Ls.Bs) (w : World) (hF : Wds w a cap ws) (ha : a = none → cap = 0) (hV : Wds w b d vs)
    (hi : -9223372036854775808 ≤ i) (hi2 : i ≤ 9223372036854775807) (hk : -9223372036854775808 ≤ k) (hk2 : k ≤ 9223372036854775807) (hsl : s.length ≤ 9223372036854775807) :
    Calls Try.prog 3 #[.slice a ws.length cap, .slice b vs.length d, .bool front, .int .i64 i, .int .i64 k, .string ⟨s.toArray⟩] w fun e W => e = .returned (.bool true) ∧ Below w.heap.size w W := by
  have HGW := Lib.hid (great_any a cap ws w hF)
  have HGV := Lib.hid (great_any b d vs w hV)
  have HF := Lib.hid hF
  have HV := Lib.hid hV
  have HA := Lib.hid ha
  have hawk : ∀ W, Below w.heap.size w W → Calls Try.prog 9 #[] W fun e W' => e = .returned (.bool true) ∧ Below w.heap.size w W' := fun W h => (awake_any W).mono fun e W' ⟨he, hb⟩ => ⟨he, h.trans (hb.mono h.size)⟩
  have HAW := Lib.hid hawk
  clear hF hV ha hawk
  go_enter Try.func3, Try.ntmps3
  go_wp2_with fail
  refine HGW.out.mono ?_
  rintro e w1 ⟨rfl, rfl⟩
  by_cases hok : Ls.greatB ws = false ∧ Ls.greatB vs = false ∧ s.length ≤ 200
  rotate_left
  · by_cases h1 : Ls.greatB ws = false
    · rw [h1]
      by_cases h2 : Ls.greatB vs = false
      · have c2 : (200 : Int) < (s.length : Int) := by
          by_cases h3 : s.length ≤ 200
          · exact (hok ⟨h1, h2, h3⟩).elim
          · omega
        clear hok h1
        go_wp2_with fail
        refine HGV.out.mono ?_
        rintro e w1 ⟨rfl, rfl⟩
        rw [h2]
        clear h2
        go_wp2_with fail
        refine (HAW.out w (Below.refl _ _)).mono ?_
        rintro e w2 ⟨rfl, hb⟩
        have HB2 := Lib.hid hb
        clear hb
        go_wp2_with fail
        go_ret
        exact ⟨rfl, HB2.out⟩
      · have h2 : Ls.greatB vs = true := by simpa using h2
        clear hok h1
        go_wp2_with fail
        refine HGV.out.mono ?_
        rintro e w1 ⟨rfl, rfl⟩
        rw [h2]
        clear h2
        go_wp2_with fail
        refine (HAW.out w (Below.refl _ _)).mono ?_
        rintro e w2 ⟨rfl, hb⟩
        have HB2 := Lib.hid hb
        clear hb
        go_wp2_with fail
        go_ret
        exact ⟨rfl, HB2.out⟩
    · have h1 : Ls.greatB ws = true := by simpa using h1
      rw [h1]
      clear hok h1
      go_wp2_with fail
      refine (HAW.out w (Below.refl _ _)).mono ?_
      rintro e w2 ⟨rfl, hb⟩
      have HB2 := Lib.hid hb
      clear hb
      go_wp2_with fail
      go_ret
      exact ⟨rfl, HB2.out⟩
  obtain ⟨h1, h2, hs2⟩ := hok
  have hgv := HGV.out
  rw [h2] at hgv
  have HGV2 := Lib.hid hgv
  obtain ⟨hwl, hwe⟩ := Ls.great_no h1
  obtain ⟨hvl, hve⟩ := Ls.great_no h2
  rw [h1]
  have d1 : ¬ (200 : Int) < (s.length : Int) := by omega
  have how : ∀ t ∈ ws, t.length ≤ 1000000 := fun t ht => by have := hwe t ht; omega
  have hov : ∀ t ∈ vs, t.length ≤ 1000000 := fun t ht => by have := hve t ht; omega
  have HFW := Lib.hid (fun W (h : Below w.heap.size w W) => HF.out.later h)
  have HVW := Lib.hid (fun W (h : Below w.heap.size w W) => HV.out.later h)
  have HAT := Lib.hid (fun W (h : Below w.heap.size w W) => at_any a cap ws i W (HFW.out W h) hi hi2 how)
  have HRAT := Lib.hid (fun W (h : Below w.heap.size w W) => at_ref a cap ws i W (HFW.out W h) hi hi2 (by omega))
  have HSET := Lib.hid (fun W (h : Below w.heap.size w W) => set_any a cap ws i s W (HFW.out W h) hi hi2 (by omega) how (by omega))
  have HRSET := Lib.hid (fun W (h : Below w.heap.size w W) => lset_ref a cap ws i s W (HFW.out W h) HA.out hi hi2 (by omega))
  have HREM := Lib.hid (fun W (h : Below w.heap.size w W) => callsIn_wide.1 (rem_any a cap ws i s W (HFW.out W h) hi hi2 (by omega) how))
  have HRREM := Lib.hid (fun W (h : Below w.heap.size w W) => rem_ref a cap ws i s W (HFW.out W h) hi hi2 (by omega))
  have HPUSH := Lib.hid (fun W (h : Below w.heap.size w W) => push_any a cap ws front b d vs W (HFW.out W h) (HVW.out W h) (by omega) how hov)
  have HRPUSH := Lib.hid (fun W (h : Below w.heap.size w W) => push_ref a cap ws front b d vs W (HFW.out W h) (HVW.out W h) HA.out (by omega) (by omega))
  have HSUB := Lib.hid (fun W (h : Below w.heap.size w W) => sub_any a cap ws i k W (HFW.out W h) hi hi2 hk hk2 (by omega) how)
  have HRSUB := Lib.hid (fun W (h : Below w.heap.size w W) => lsub_ref a cap ws i k W (HFW.out W h) hi hi2 hk hk2 (by omega))
  have HOW := Lib.hid (show ∀ t ∈ ws, t.length ≤ 9223372036854775807 from fun t ht => by have := hwe t ht; omega)
  have HOSET := Lib.hid (show ∀ t ∈ Ls.setS ws i s, t.length ≤ 9223372036854775807 from fun t ht => by
    unfold Ls.setS at ht
    split at ht
    · rcases List.mem_or_eq_of_mem_set ht with h | h
      · have := hwe t h; omega
      · subst h; omega
    · simp at ht)
  have HOREM := Lib.hid (show ∀ t ∈ Ls.remS ws s i, t.length ≤ 9223372036854775807 from fun t ht => by have := hwe t (Ls.dropK_mem (Nat.le_refl _) ht); omega)
  have HOPUSH := Lib.hid (show ∀ t ∈ Ls.pushS ws vs front, t.length ≤ 9223372036854775807 from fun t ht => by
    unfold Ls.pushS at ht
    split at ht
    · rcases List.mem_append.1 ht with h | h
      · have := hve t (List.mem_reverse.1 h); omega
      · have := hwe t h; omega
    · rcases List.mem_append.1 ht with h | h
      · have := hwe t h; omega
      · have := hve t h; omega)
  have HOSUB := Lib.hid (show ∀ t ∈ Ls.subS ws i k, t.length ≤ 9223372036854775807 from fun t ht => by
    unfold Ls.subS at ht
    split at ht
    · simp at ht
    · have := hwe t (List.mem_of_mem_drop (List.mem_of_mem_take ht)); omega)
  have hwl' : ws.length ≤ 2000000 := by omega
  clear h1 h2 hs2 hgv hwe hve how hov hwl hvl HGV HGW hi hi2 hk hk2
  generalize Ls.atS ws i = xs at *
  generalize Ls.isAt ws.length i = xb at *
  generalize Ls.setS ws i s = sl at *
  generalize Ls.remS ws s i = rl at *
  generalize (Ls.remN ws s i : Int) = rn at *
  generalize Ls.pushS ws vs front = pl at *
  generalize Ls.subS ws i k = ul at *
  go_wp2_with fail
  refine HGV2.out.mono ?_
  rintro e w1 ⟨rfl, rfl⟩
  go_wp2_with (at_builtin; refine wpList_append_w rfl (.tmp 37) (.tmp 38) rfl rfl (RowW.empty (Below.refl w.heap.size w)) rfl (HF.out.later ((Below.refl _ _).alloc (Nat.le_refl _) _)) HA.out (by simp) hwl' ?_; intro v2 w2 hr2; rw [List.nil_append] at hr2; obtain ⟨a2, c2', rfl, hf2⟩ := hr2.words HOW.out; have HB2 := Lib.hid hr2.2; have HF2 := Lib.hid hf2; clear hr2 hf2)
  have HG2 := Lib.hid (Below.refl w2.heap.size w2)
  refine (HAT.out w2 HB2.out).mono ?_
  rintro e w3 ⟨rfl, hb⟩
  have HG3 := Lib.hid (HG2.out.trans (hb.mono HG2.out.size))
  have HB3 := Lib.hid (HB2.out.trans (hb.mono HB2.out.size))
  clear hb
  go_wp2_with fail
  refine (HRAT.out w3 HB3.out).mono ?_
  rintro e w4 ⟨rfl, hb⟩
  have HG4 := Lib.hid (HG3.out.trans (hb.mono HG3.out.size))
  have HB4 := Lib.hid (HB3.out.trans (hb.mono HB3.out.size))
  clear hb
  go_wp2_with fail
  obtain ⟨w5, hw5⟩ : ∃ w5, w4.alloc (.cells #[.string ⟨xs.toArray⟩, .bool xb] 28) = w5 := ⟨_, rfl⟩
  have HBX := Lib.hid (show Box2 w5 w4.heap.size 28 (.string ⟨xs.toArray⟩) (.bool xb) by rw [← hw5]; exact Box2.new w4 _ _ _)
  have HB5 := Lib.hid (show Below w.heap.size w w5 by rw [← hw5]; exact HB4.out.alloc HB4.out.size _)
  have HG5 := Lib.hid (show Below w2.heap.size w2 w5 by rw [← hw5]; exact HG4.out.alloc HG4.out.size _)
  rw [show w4.alloc (.cells #[.string ⟨xs.toArray⟩, .bool xb] 28) = w5 from hw5]
  have HK5 := Lib.hid (Below.refl w5.heap.size w5)
  clear hw5
  refine (HSET.out w5 HB5.out).mono ?_
  rintro e w6 ⟨u11, rfl, hr⟩
  obtain ⟨b11, d11, rfl, hf⟩ := hr.words HOSET.out
  have hb := hr.2
  have HG6 := Lib.hid (HG5.out.trans (hb.mono HG5.out.size))
  have HB6 := Lib.hid (HB5.out.trans (hb.mono HB5.out.size))
  have HK6 := Lib.hid (HK5.out.trans (hb.mono HK5.out.size))
  have HF11_ := Lib.hid hf
  clear hr hf hb
  go_wp2_with fail
  refine (HRSET.out w6 HB6.out).mono ?_
  rintro e w7 ⟨u12, rfl, hr⟩
  obtain ⟨b12, d12, rfl, hf⟩ := hr.words HOSET.out
  have hb := hr.2
  have HG7 := Lib.hid (HG6.out.trans (hb.mono HG6.out.size))
  have HB7 := Lib.hid (HB6.out.trans (hb.mono HB6.out.size))
  have HK7 := Lib.hid (HK6.out.trans (hb.mono HK6.out.size))
  replace HF11_ := Lib.hid (HF11_.out.later hb)
  have HF12_ := Lib.hid hf
  clear hr hf hb
  go_wp2_with fail
  refine (HREM.out w7 HB7.out).mono ?_
  rintro e w8 ⟨u13, rfl, hr⟩
  obtain ⟨b13, d13, rfl, hf⟩ := hr.words HOREM.out
  have hb := hr.2
  have HG8 := Lib.hid (HG7.out.trans (hb.mono HG7.out.size))
  have HB8 := Lib.hid (HB7.out.trans (hb.mono HB7.out.size))
  have HK8 := Lib.hid (HK7.out.trans (hb.mono HK7.out.size))
  replace HF11_ := Lib.hid (HF11_.out.later hb)
  replace HF12_ := Lib.hid (HF12_.out.later hb)
  have HF13_ := Lib.hid hf
  clear hr hf hb
  go_wp2_with fail
  refine (HRREM.out w8 HB8.out).mono ?_
  rintro e w9 ⟨u14, rfl, hr⟩
  obtain ⟨b14, d14, rfl, hf⟩ := hr.words HOREM.out
  have hb := hr.2
  have HG9 := Lib.hid (HG8.out.trans (hb.mono HG8.out.size))
  have HB9 := Lib.hid (HB8.out.trans (hb.mono HB8.out.size))
  have HK9 := Lib.hid (HK8.out.trans (hb.mono HK8.out.size))
  replace HF11_ := Lib.hid (HF11_.out.later hb)
  replace HF12_ := Lib.hid (HF12_.out.later hb)
  replace HF13_ := Lib.hid (HF13_.out.later hb)
  have HF14_ := Lib.hid hf
  clear hr hf hb
  go_wp2_with fail
  refine (HPUSH.out w9 HB9.out).mono ?_
  rintro e w10 ⟨u15, rfl, hr⟩
  obtain ⟨b15, d15, rfl, hf⟩ := hr.words HOPUSH.out
  have hb := hr.2
  have HG10 := Lib.hid (HG9.out.trans (hb.mono HG9.out.size))
  have HB10 := Lib.hid (HB9.out.trans (hb.mono HB9.out.size))
  have HK10 := Lib.hid (HK9.out.trans (hb.mono HK9.out.size))
  replace HF11_ := Lib.hid (HF11_.out.later hb)
  replace HF12_ := Lib.hid (HF12_.out.later hb)
  replace HF13_ := Lib.hid (HF13_.out.later hb)
  replace HF14_ := Lib.hid (HF14_.out.later hb)
  have HF15_ := Lib.hid hf
  clear hr hf hb
  go_wp2_with fail
  refine (HRPUSH.out w10 HB10.out).mono ?_
  rintro e w11 ⟨u16, rfl, hr⟩
  obtain ⟨b16, d16, rfl, hf⟩ := hr.words HOPUSH.out
  have hb := hr.2
  have HG11 := Lib.hid (HG10.out.trans (hb.mono HG10.out.size))
  have HB11 := Lib.hid (HB10.out.trans (hb.mono HB10.out.size))
  have HK11 := Lib.hid (HK10.out.trans (hb.mono HK10.out.size))
  replace HF11_ := Lib.hid (HF11_.out.later hb)
  replace HF12_ := Lib.hid (HF12_.out.later hb)
  replace HF13_ := Lib.hid (HF13_.out.later hb)
  replace HF14_ := Lib.hid (HF14_.out.later hb)
  replace HF15_ := Lib.hid (HF15_.out.later hb)
  have HF16_ := Lib.hid hf
  clear hr hf hb
  go_wp2_with fail
  refine (texts_any _ _ _ _ _ _ w11 HF15_.out HF16_.out).mono ?_
  rintro e w12 ⟨rfl, hb⟩
  have HG12 := Lib.hid (HG11.out.trans (hb.mono HG11.out.size))
  have HB12 := Lib.hid (HB11.out.trans (hb.mono HB11.out.size))
  have HK12 := Lib.hid (HK11.out.trans (hb.mono HK11.out.size))
  replace HF11_ := Lib.hid (HF11_.out.later hb)
  replace HF12_ := Lib.hid (HF12_.out.later hb)
  replace HF13_ := Lib.hid (HF13_.out.later hb)
  replace HF14_ := Lib.hid (HF14_.out.later hb)
  clear hb
  simp only [decide_true]
  go_wp2_with fail
  refine (HSUB.out w12 HB12.out).mono ?_
  rintro e w13 ⟨u17, rfl, hr⟩
  obtain ⟨b17, d17, rfl, hf⟩ := hr.words HOSUB.out
  have hb := hr.2
  have HG13 := Lib.hid (HG12.out.trans (hb.mono HG12.out.size))
  have HB13 := Lib.hid (HB12.out.trans (hb.mono HB12.out.size))
  have HK13 := Lib.hid (HK12.out.trans (hb.mono HK12.out.size))
  replace HF11_ := Lib.hid (HF11_.out.later hb)
  replace HF12_ := Lib.hid (HF12_.out.later hb)
  replace HF13_ := Lib.hid (HF13_.out.later hb)
  replace HF14_ := Lib.hid (HF14_.out.later hb)
  have HF17_ := Lib.hid hf
  clear hr hf hb
  go_wp2_with fail
  refine (HRSUB.out w13 HB13.out).mono ?_
  rintro e w14 ⟨u18, rfl, hr⟩
  obtain ⟨b18, d18, rfl, hf⟩ := hr.words HOSUB.out
  have hb := hr.2
  have HG14 := Lib.hid (HG13.out.trans (hb.mono HG13.out.size))
  have HB14 := Lib.hid (HB13.out.trans (hb.mono HB13.out.size))
  have HK14 := Lib.hid (HK13.out.trans (hb.mono HK13.out.size))
  replace HF11_ := Lib.hid (HF11_.out.later hb)
  replace HF12_ := Lib.hid (HF12_.out.later hb)
  replace HF13_ := Lib.hid (HF13_.out.later hb)
  replace HF14_ := Lib.hid (HF14_.out.later hb)
  replace HF17_ := Lib.hid (HF17_.out.later hb)
  have HF18_ := Lib.hid hf
  clear hr hf hb
  go_wp2_with fail
  refine (texts_any _ _ _ _ _ _ w14 HF17_.out HF18_.out).mono ?_
  rintro e w15 ⟨rfl, hb⟩
  have HG15 := Lib.hid (HG14.out.trans (hb.mono HG14.out.size))
  have HB15 := Lib.hid (HB14.out.trans (hb.mono HB14.out.size))
  have HK15 := Lib.hid (HK14.out.trans (hb.mono HK14.out.size))
  replace HF11_ := Lib.hid (HF11_.out.later hb)
  replace HF12_ := Lib.hid (HF12_.out.later hb)
  replace HF13_ := Lib.hid (HF13_.out.later hb)
  replace HF14_ := Lib.hid (HF14_.out.later hb)
  clear hb
  simp only [decide_true]
  obtain ⟨z0, z1⟩ := HBX.out.cells_later HK15.out
  have zz : (xs == xs) = true := by simp
  go_wp2_with fail
  refine (texts_any _ _ _ _ _ _ w15 HF11_.out HF12_.out).mono ?_
  rintro e w16 ⟨rfl, hb⟩
  have HG16 := Lib.hid (HG15.out.trans (hb.mono HG15.out.size))
  have HB16 := Lib.hid (HB15.out.trans (hb.mono HB15.out.size))
  have HK16 := Lib.hid (HK15.out.trans (hb.mono HK15.out.size))
  replace HF13_ := Lib.hid (HF13_.out.later hb)
  replace HF14_ := Lib.hid (HF14_.out.later hb)
  clear hb
  simp only [decide_true]
  clear z0 z1
  go_wp2_with fail
  refine (texts_any _ _ _ _ _ _ w16 HF13_.out HF14_.out).mono ?_
  rintro e w17 ⟨rfl, hb⟩
  have HG17 := Lib.hid (HG16.out.trans (hb.mono HG16.out.size))
  have HB17 := Lib.hid (HB16.out.trans (hb.mono HB16.out.size))
  have HK17 := Lib.hid (HK16.out.trans (hb.mono HK16.out.size))
  clear hb
  simp only [decide_true]
  go_wp2_with fail
  refine (texts_any _ _ _ _ _ _ w17 (HFW.out w17 HB17.out) (HF2.out.later HG17.out)).mono ?_
  rintro e w18 ⟨rfl, hb⟩
  have HG18 := Lib.hid (HG17.out.trans (hb.mono HG17.out.size))
  have HB18 := Lib.hid (HB17.out.trans (hb.mono HB17.out.size))
  have HK18 := Lib.hid (HK17.out.trans (hb.mono HK17.out.size))
  clear hb
  simp only [decide_true]
  go_wp2_with fail
  refine (HAW.out w18 HB18.out).mono ?_
  rintro e w19 ⟨rfl, hb⟩
  have HB19 := Lib.hid hb
  clear hb
  go_wp2_with fail
  go_ret
  exact ⟨rfl, HB19.out⟩
end Go.Proofs.Ytjfjlbgbdjcecaa
