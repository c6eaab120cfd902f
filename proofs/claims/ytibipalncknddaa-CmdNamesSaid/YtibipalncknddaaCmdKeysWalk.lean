/- The walk of the statement CmdKeys. -/
import Derived.Test.YtibipalncknddaaCmAwake
import Derived.Test.YtibipalncknddaaCmKeysPlain
import Derived.Test.YtibipalncknddaaCmdPairsWalk
namespace Go.Proofs.Ytibipalncknddaa
open Go.RowKit Go.Shelf

theorem check_b (a : Option Addr) (cap : Nat) (ws : List (List UInt8)) (w : World) (hW : Wds w a cap ws) (b : Bool) (hb : (Cm.checkS ws).isSome = b) :
    Calls Try.prog 9 #[.slice a ws.length cap] w fun e W' => ∃ nm l m f la st wb, e = .returned (.tuple #[.agg #[.string ⟨nm⟩, .int .i64 l, .int .i64 m, .int .i64 f, .int .i64 la, .int .i64 st, .bool wb], .bool b]) ∧ Below w.heap.size w W' := by
  refine (check_c a cap ws w hW).mono ?_
  rintro e W' ⟨rfl, h⟩
  unfold chkV
  cases hc : Cm.checkS ws with
  | none => rw [hc] at hb; subst hb; exact ⟨_, _, _, _, _, _, _, rfl, h⟩
  | some s => rw [hc] at hb; subst hb; exact ⟨_, _, _, _, _, _, _, rfl, h⟩

theorem Wds.take {w : World} {a : Option Addr} {cap : Nat} {ws : List (List UInt8)} (h : Wds w a cap ws) (n : Nat) : Wds w a cap (ws.take n) := by
  obtain ⟨h0, h1, h2, h3⟩ := h
  refine ⟨by rw [List.length_take]; omega, h1, fun s hs => h2 s (List.mem_of_mem_take hs), ?_⟩
  rcases h3 with rfl | ⟨b, off, ha, hlt, hc⟩
  · left; simp
  · refine .inr ⟨b, off, ha, hlt, fun k hk => ?_⟩
    rw [List.length_take] at hk
    rw [hc k (by omega), Cm.getD_eq (l := ws) (by omega), Cm.getD_eq (by rw [List.length_take]; exact hk), List.getElem_take]

theorem RowW.wds {w W : World} {a : Option Addr} {n cap : Nat} {ws : List (List UInt8)} (h : RowW w (.slice a n cap) ws W) (hs : ∀ s ∈ ws, s.length ≤ 9223372036854775807) : Wds W a cap ws := by
  obtain ⟨a', cap', hv, hw, _⟩ := wds_of_row h.1 hs
  injection hv with e1 e2 e3
  subst e1 e3
  exact hw

/-- an empty row. -/
theorem RowW.none {w W : World} (hb : Below w.heap.size w W) : RowW w (.slice (some ⟨W.heap.size, 0, none⟩) 0 0) [] (W.alloc (.cells #[] 9)) :=
  ⟨⟨by simp [wcells], .inr ⟨W.heap.size, 0, _, rfl, hb.size, World.alloc_heap_new W _, Nat.le_refl _, by decide, rfl, by simp [wcells]⟩⟩, hb.alloc hb.size _⟩

theorem RowW.copied {w W w1 : World} {v v' : Value} {ws : List (List UInt8)} (h : RowW w v [] W) (h1 : w1.ownsRow w.heap.size 9 1 v' ws.length (wcells [] ++ wcells ws)) (hg : W.grownBy w1 v.ownBlock) : RowW w v' ws w1 :=
  ⟨h1, h.2.trans ((Keeps.of_grown (S := fun k => some k ≠ v.ownBlock) hg fun r e h => h e.symm).below h.2.size fun k hk e => by have := (h.1.lt k e.symm).1; omega)⟩

theorem news_of {w : World} {b off cap : Nat} {ws : List (List UInt8)} (h : Wds w (some ⟨b, off, Option.none⟩) cap ws) : ∀ j u, (wcells ws)[j]? = some u → w.cell? ((⟨b, off, Option.none⟩ : Addr).add j) = some u := by
  intro j u hu
  have hj : j < ws.length := by
    have := (List.getElem?_eq_some_iff.1 hu).1
    simpa [wcells] using this
  obtain ⟨b', off', he, _, hc⟩ := h.get (by omega)
  cases he
  have e : (⟨b, off, Option.none⟩ : Addr).add j = ⟨b, off + j, Option.none⟩ := by unfold Addr.add; split <;> simp_all
  rw [e, hc j hj, Cm.getD_eq hj]
  simp [wcells, hj] at hu
  rw [hu]
theorem news_one {ws : List (List UInt8)} : ∀ u ∈ wcells ws, u.oneCell' = true := by
  intro u hu
  obtain ⟨s, _, rfl⟩ := List.mem_map.1 hu
  rfl

/-- a word of a row is set. -/
theorem Wds.set {w : World} {g cap : Nat} {ws : List (List UInt8)} (h : Wds w (some ⟨g, 0, Option.none⟩) cap ws) (j : Nat) (x : List UInt8) (hj : j < ws.length) (hx : x.length ≤ 9223372036854775807) : Wds (w.setCell ⟨g, j, Option.none⟩ (.string ⟨x.toArray⟩)) (some ⟨g, 0, Option.none⟩) cap (ws.set j x) := by
  obtain ⟨b, off, he, hlt, hc⟩ := h.get (by omega)
  cases he
  obtain ⟨h0, h1, h2, _⟩ := h
  refine ⟨by simpa using h0, h1, ?_, .inr ⟨g, 0, rfl, by simpa using hlt, fun k hk => ?_⟩⟩
  · intro s hs
    rcases List.mem_or_eq_of_mem_set hs with hm | hm
    · exact h2 s hm
    · rw [hm]; exact hx
  · rw [List.length_set] at hk
    rw [Nat.zero_add]
    by_cases hkj : k = j
    · subst hkj
      have := hc k hk
      rw [Nat.zero_add] at this
      rw [World.cell?_setCell_same' _ _ _ (by rw [this]; rfl), Cm.getD_eq (by rw [List.length_set]; exact hk)]
      simp
    · rw [World.cell?_setCell_other _ _ _ _ (by first | (simp; done) | (simp; omega))]
      have := hc k hk
      rw [Nat.zero_add] at this
      rw [this, Cm.getD_eq hk, Cm.getD_eq (by rw [List.length_set]; exact hk), List.getElem_set_ne (fun e => hkj e.symm)]

theorem Cm.first_most {s : Cm.Sp} (h : s ∈ Cm.tab) : s.first = 0 → s.most ≠ 0 := (show ∀ s ∈ Cm.tab, s.first = 0 → s.most ≠ 0 by decide +kernel) s h

def lenV : Value → Nat
  | .slice _ n _ => n
  | _ => 0

set_option maxRecDepth 100000 in
set_option maxHeartbeats 4000000 in
theorem cmdKeys_P (which more : Int) (w : World) (hw : 0 ≤ which ∧ which ≤ 255) (hm : 0 ≤ more ∧ more ≤ 255) (s : Cm.Sp) (j q : Nat) (hj : which % 54 = (j : Int)) (hj2 : j < 54) (hq : more % 20 = (q : Int)) (hq2 : q < 20) (hf : Cm.findS (Cm.names.getD j []) = some s) (hnm : s.nm = Cm.names.getD j []) (hok : Cm.Ok s)
    (g1 : (Cm.checkS (Cm.kW s)).isSome = true) (g2 : (Cm.checkS ((Cm.kW s).take (s.least.toNat - 1))).isSome = false) (g3 : s.first = 0 ↔ Cm.keysOf (Cm.kW s) = []) (g4 : s.first ≠ 0 → (Cm.keysOf (Cm.kW s)).getD 0 [] = [107, 49] ∧ Cm.checkS ((Cm.kW s).set 1 Cm.longK) = none)
    (g5 : s.most ≠ 0 → (!(Cm.checkS (Cm.kW s ++ [[120]])).isSome) = decide (s.most = s.least)) (g6 : s.most = 0 → ∀ j, j < 20 → (Cm.checkS (Cm.kW s ++ List.replicate (2 * j) [109])).isSome = true) (hc : s.first = 0 ∧ s.most ≠ 0) :
    Calls Try.prog 5 #[.int .u8 which, .int .u8 more] w fun e w' => e = .returned (.bool true) ∧ Below w.heap.size w w' := by
  obtain ⟨i0, hi, hz0, hz1, hz2⟩ := info_parts info9
  have _ := hq2
  obtain ⟨w1, w2⟩ := hw
  obtain ⟨m1, m2⟩ := hm
  have hnl := Cm.names_len
  have hns : ∀ t ∈ Cm.names, t.length ≤ 9 := Cm.names_short
  have hnj : (Cm.names.getD j []).length ≤ 9 := by rw [Cm.getD_eq (by omega)]; exact hns _ (List.getElem_mem _)
  have hfd := fun W => find_c (Cm.names.getD j []) W (by omega)
  unfold findV at hfd
  rw [hf] at hfd
  have HFd := Lib.hid hfd
  have hjT : (which % 54).toNat = j := by omega
  have hj0 : 0 ≤ which % 54 := by omega
  have hj1 : which % 54 < 54 := by omega
  have HJj := Lib.hid hj
  have HQq := Lib.hid hq
  have HL := Lib.hid hnl
  have HNm := Lib.hid hnm
  obtain ⟨hk1, hk2, hl1, hl4, hmo1, hmo4, hok'⟩ := hok
  have HG1 := Lib.hid g1
  have HG2 := Lib.hid g2
  have HG3 := Lib.hid g3
  have HG4 := Lib.hid g4
  have HG5 := Lib.hid g5
  have HG6 := Lib.hid g6
  clear hfd hf hns hj hq hnl hnm g1 g2 g3 g4 g5 g6
  obtain ⟨nm, hnm0⟩ : ∃ nm, Cm.names.getD j [] = nm := ⟨_, rfl⟩
  have HN0 := Lib.hid hnm0
  rw [hnm0] at HFd HNm hnj
  clear hnm0
  obtain ⟨snm, least, most, first, last, step, wb⟩ := s
  simp only at *
  obtain ⟨rfl, hmo⟩ := hc
  obtain ⟨L, rfl⟩ := Int.eq_ofNat_of_zero_le (show 0 ≤ least by omega)
  have hL4 : L ≤ 4 := by omega
  have hL1 : 1 ≤ L := by omega
  go_enter Try.func5, Try.ntmps5
  go_upto_region 7 with (first
    | (go_at_call 16; refine (names_c _).mono ?_; rintro e wa ⟨aa, ca, rfl, hwd, hba⟩; rw [HL.out]; have HBa := Lib.hid hba; obtain ⟨ba, oa, rfl, hlta, hca⟩ := hwd.get (by rw [HL.out]; omega); have qn := hca j (by rw [HL.out]; exact hj2); rw [HN0.out] at qn; clear hba hwd hca)
    | (go_at_call 11; refine (HFd.out _).mono ?_; rintro e wc ⟨rfl, hbc⟩; have HBc := Lib.hid hbc; clear hbc; simp only [spV]))
  obtain ⟨w3, hw3⟩ : ∃ w3, wc.alloc (.cells #[.string ⟨snm.toArray⟩, .int .i64 (L : Int), .int .i64 most, .int .i64 0, .int .i64 last, .int .i64 step, .bool wb] 26) = w3 := ⟨_, rfl⟩
  have hs3 : SpBox w3 wc.heap.size ⟨snm, (L : Int), most, 0, last, step, wb⟩ := by rw [← hw3]; exact World.alloc_heap_new wc _
  have hb3 : Below w.heap.size w w3 := by
    have h1 := HBa.out.trans (HBc.out.mono HBa.out.size)
    rw [← hw3]; exact h1.alloc h1.size _
  have hlt3 := hs3.lt
  rw [hw3]
  have HS3 := Lib.hid hs3
  have HB3 := Lib.hid hb3
  have hr0 := RowW.one (Below.refl w3.heap.size w3) snm
  obtain ⟨c0, c1, c2, c3, c4, c5, c6⟩ := hs3.at
  simp only [Nat.zero_add] at c0 c1 c2 c3 c4 c5 c6
  have hkw0 : Cm.kwTo snm 0 = [snm] := rfl
  rw [← hkw0] at hr0
  have HR0 := Lib.hid hr0
  clear hw3 hs3 hb3 hr0 hkw0
  go_wp2
  clear c0 c1 c2 c3 c4 c5 c6
  go_loopw [8] (fun v wr => ∃ (n : Nat) (a : Option Addr) (cap : Nat), 1 ≤ n ∧ n ≤ L ∧ v = .slice a n cap ∧ Hid (RowW w3 (.slice a n cap) (Cm.kwTo snm (n - 1)) wr)) (fun v _ => L - lenV v)
  case atStart => exact ⟨1, _, 1, Nat.le_refl _, by omega, rfl, HR0⟩
  case round =>
    obtain ⟨n, a, cap, hn1, hnL, rfl, HRm⟩ := hrel
    have hszr := HRm.out.2.size
    have e1 := (HRm.out.2.cell (p := ⟨wc.heap.size, 1, none⟩) hlt3).trans HS3.out.at.2.1
    by_cases hlt : n < L
    · have hltI : (n : Int) < (L : Int) := by omega
      have hdig := fun W => digits_c n W (by omega)
      have hcat := str_two 107 (Cm.dg n)
      have hkl := @Cm.kd_len n
      have hkm : Cm.kd n = 107 :: Cm.dg n := rfl
      rw [← hkm] at hcat
      have hdl : (Cm.dg n).length ≤ 3 := by rw [hkm] at hkl; simp at hkl; omega
      have hst1 : Cm.kwTo snm n = Cm.kwTo snm (n - 1) ++ [Cm.kd n] := by
        obtain ⟨n', rfl⟩ : ∃ n', n = n' + 1 := ⟨n - 1, by omega⟩
        rfl
      have HS1 := Lib.hid hst1
      have HD := Lib.hid hdig
      have HLen := Lib.hid (show (Cm.kwTo snm (n - 1)).length = n by rw [Cm.kwTo_len]; omega)
      clear hst1 hdig hkm
      generalize Cm.kd n = km at *
      generalize Cm.dg n = dm at *
      go_wp2_with (first | (go_at_call 18; refine (HD.out _).mono ?_; rintro e w5 ⟨rfl, hb5⟩; have hr5 := HRm.out.later hb5; have hsz5 := hr5.2.size; clear hb5) | (at_builtin; refine wpList_append_own _ rfl (.tmp 58) (.tmp 63) 22 rfl w3.heap.size 9 i0 (.string ⟨#[]⟩) 1 16 Try.underlying22 hi hz0 hz1 hz2 rfl (by decide) _ _ _ rfl (hr5.1.alloc _) ⟨w5.heap.size, 0, none⟩ 1 1 [.string ⟨km.toArray⟩] rfl rfl ?b1 ?b2 ?b3 ?b4 ?b5 ?_))
      case b1 => exact one_news _ _ rfl _ _
      case b2 => intro u hu; simp at hu; subst hu; rfl
      case b3 => rw [HLen.out]; unfold maxLen; omega
      case b4 => rw [HLen.out]; omega
      case b5 => simp; omega
      intro v6 w6 hown6 hgrow6 _
      have hr6 : RowW w3 v6 (Cm.kwTo snm n) w6 := by rw [HS1.out]; exact hr5.append hown6 hgrow6
      obtain ⟨a6, c6, rfl, -⟩ := hr6.words (fun t ht => by have := Cm.kwTo_short (nm := snm) (by omega) n t ht; omega)
      rw [Cm.kwTo_len] at hr6
      have HR6 := Lib.hid hr6
      clear hown6 hgrow6 hr5 hr6 hcat
      rw [Cm.kwTo_len]
      go_wp2
      go_roundw
      case rel => exact ⟨n + 1, _, _, by omega, by omega, rfl, HR6⟩
      case measure => simp [lenV]; omega
    · obtain rfl : n = L := by omega
      clear hlt
      obtain ⟨ws, hws⟩ : ∃ ws, Cm.kwTo snm (n - 1) = ws := ⟨_, rfl⟩
      have hkW : Cm.kW ⟨snm, (n : Int), most, 0, last, step, wb⟩ = ws := by rw [← hws]; simp [Cm.kW]
      have hwl : ws.length = n := by rw [← hws, Cm.kwTo_len]; omega
      have hwsh : ∀ t ∈ ws, t.length ≤ 9223372036854775807 := fun t ht => by have := Cm.kwTo_short (nm := snm) (by omega) (n - 1) t (hws ▸ ht); omega
      rw [hws] at HRm
      rw [hkW] at HG1 HG2 HG3 HG4 HG5 HG6
      simp only [Int.toNat_natCast] at HG2
      have hwd := HRm.out.wds hwsh
      obtain ⟨b0, o0, rfl, hb0, -⟩ := hwd.get (by omega)
      have HW : Hid (∀ W, Below wr.heap.size wr W → Wds W (some ⟨b0, o0, none⟩) cap ws) := Lib.hid fun W h => hwd.later h
      have HS : Hid (∀ W, Below wr.heap.size wr W → SpAt W wc.heap.size 0 ⟨snm, (n : Int), most, 0, last, step, wb⟩) := Lib.hid fun W h => HS3.out.at.keep fun j => (HRm.out.2.trans (h.mono HRm.out.2.size)).cell (p := ⟨wc.heap.size, j, none⟩) hlt3
      have hltr : wc.heap.size < wr.heap.size := Nat.lt_of_lt_of_le hlt3 hszr
      have HCA : Hid (∀ W, Below wr.heap.size wr W → Calls Try.prog 9 #[.slice (some ⟨b0, o0, none⟩) n cap] W fun e W' => (∃ nm l m f la st wb, e = .returned (.tuple #[.agg #[.string ⟨nm⟩, .int .i64 l, .int .i64 m, .int .i64 f, .int .i64 la, .int .i64 st, .bool wb], .bool true])) ∧ Below wr.heap.size wr W') := Lib.hid fun W h => by
        have := check_b (some ⟨b0, o0, none⟩) cap ws W (HW.out W h) true HG1.out
        rw [hwl] at this
        exact this.mono fun e W' ⟨a1, a2, a3, a4, a5, a6, a7, he, hb⟩ => ⟨⟨a1, a2, a3, a4, a5, a6, a7, he⟩, h.trans (hb.mono h.size)⟩
      have HCB : Hid (∀ W, Below wr.heap.size wr W → Calls Try.prog 9 #[.slice (some ⟨b0, o0, none⟩) (n - 1) cap] W fun e W' => (∃ nm l m f la st wb, e = .returned (.tuple #[.agg #[.string ⟨nm⟩, .int .i64 l, .int .i64 m, .int .i64 f, .int .i64 la, .int .i64 st, .bool wb], .bool false])) ∧ Below wr.heap.size wr W') := Lib.hid fun W h => by
        have := check_b (some ⟨b0, o0, none⟩) cap (ws.take (n - 1)) W ((HW.out W h).take _) false HG2.out
        rw [List.length_take, hwl, Nat.min_eq_left (by omega)] at this
        exact this.mono fun e W' ⟨a1, a2, a3, a4, a5, a6, a7, he, hb⟩ => ⟨⟨a1, a2, a3, a4, a5, a6, a7, he⟩, h.trans (hb.mono h.size)⟩
      have HCK : Hid (∀ W, Below wr.heap.size wr W → Calls Try.prog 14 #[.slice (some ⟨b0, o0, none⟩) n cap] W fun e W' => (∃ a c, e = .returned (.slice a 0 c)) ∧ Below wr.heap.size wr W') := Lib.hid fun W h => by
        have := keys_c (some ⟨b0, o0, none⟩) cap ws W (HW.out W h)
        rw [hwl] at this
        refine this.mono fun e W' ⟨a1, c1, he, hwd', hb⟩ => ⟨?_, h.trans (hb.mono h.size)⟩
        subst he
        rw [HG3.out.1 trivial]
        exact ⟨a1, c1, rfl⟩
      have hn1' : ((n : Int) - 1).toNat = n - 1 := by omega
      have hn0 : 0 ≤ (n : Int) - 1 := by omega
      have hnc : n ≤ cap := by have := hwd.1; omega
      have hncI : (n : Int) - 1 ≤ (cap : Int) := by omega
      have hnn : (n : Int) - 1 ≤ (n : Int) := by omega
      have HRow := Lib.hid HRm.out
      have HWL := Lib.hid hwl
      have HWS := Lib.hid hwsh
      clear hws hkW hwl hwsh hwd HRm
      go_wp2_with fail
      refine (HCA.out _ (Below.refl _ _)).mono ?_
      rintro e w5 ⟨⟨p1, p2, p3, p4, p5, p6, p7, rfl⟩, hb5⟩
      have HB5 := Lib.hid hb5
      clear hb5
      go_wp2_with fail
      refine (HCB.out _ (HB5.out.alloc HB5.out.size _)).mono ?_
      rintro e w6 ⟨⟨q1, q2, q3, q4, q5, q6, q7, rfl⟩, hb6⟩
      have HB6 := Lib.hid hb6
      clear hb6
      go_wp2_with fail
      refine (HCK.out _ (HB6.out.alloc HB6.out.size _)).mono ?_
      rintro e w7 ⟨⟨ak, ck, rfl⟩, hb7⟩
      obtain ⟨c0, c1, c2, c3, c4, c5, c6⟩ := HS.out _ hb7
      simp only [Nat.zero_add] at c0 c1 c2 c3 c4 c5 c6
      have hsz7 := hb7.size
      have HB7 := Lib.hid hb7
      clear hb7
      have hPP := HB7.out.size

      have hsz7b := HB7.out.size
      have hmo2 : 0 < most := by omega
      obtain ⟨db, hdb⟩ : ∃ db, (Cm.checkS (ws ++ [[120]])).isSome = db := ⟨_, rfl⟩
      have hg5 := HG5.out (by omega)
      rw [hdb] at hg5
      have hcm : (most == (n : Int)) = !db := by rw [hg5]; by_cases e : most = (n : Int) <;> simp [e]
      have hltc : wc.heap.size < w7.heap.size := Nat.lt_of_lt_of_le hltr hsz7b
      have hr20 := RowW.none (Below.refl w7.heap.size w7)
      have hnews2 := news_of (HW.out (w7.alloc (.cells #[] 9)) (HB7.out.alloc hsz7b _))
      have HNews2 := Lib.hid hnews2
      have HDB := Lib.hid hdb
      clear hnews2 hdb hg5
      go_wp2_with (at_builtin; refine wpList_append_own _ rfl (.tmp 130) (.tmp 131) 22 rfl w7.heap.size 9 i0 (.string ⟨#[]⟩) 1 16 Try.underlying22 hi hz0 hz1 hz2 rfl (by decide) _ _ _ rfl hr20.1 ⟨b0, o0, none⟩ n cap (wcells ws) rfl (by have := HWL.out; simp [wcells, this]) HNews2.out news_one ?k3 ?k4 ?k5 ?_)
      case k3 => unfold maxLen; simp; omega
      case k4 => simp; omega
      case k5 => simp
      intro v21 w21 hown21 hgrow21 _
      rw [← HWL.out] at hown21
      have hr21 : RowW w7 v21 ws w21 := hr20.copied hown21 hgrow21
      have hsz21 := hr21.2.size
      have hwl := HWL.out
      clear hown21 hgrow21 hr20
      go_wp2_with (at_builtin; refine wpList_append_own _ rfl (.tmp 132) (.tmp 133) 22 rfl w7.heap.size 9 i0 (.string ⟨#[]⟩) 1 16 Try.underlying22 hi hz0 hz1 hz2 rfl (by decide) _ _ _ rfl (hr21.1.alloc _) ⟨w21.heap.size, 0, none⟩ 1 1 [.string ⟨#[120]⟩] rfl rfl ?l1 ?l2 ?l3 ?l4 ?l5 ?_)
      case l1 => exact one_news _ _ rfl _ _
      case l2 => intro u hu; simp at hu; subst hu; rfl
      case l3 => rw [HWL.out]; unfold maxLen; omega
      case l4 => rw [HWL.out]; omega
      case l5 => simp; omega
      intro v22 w22 hown22 hgrow22 _
      rw [← HWL.out] at hown22
      have hr22 : RowW w7 v22 (ws ++ [[120]]) w22 := hr21.append hown22 hgrow22
      have hsh22 : ∀ t ∈ ws ++ [[120]], t.length ≤ 9223372036854775807 := fun t ht => by
        rcases List.mem_append.1 ht with h | h
        · exact HWS.out t h
        · rw [List.mem_singleton.1 h]; simp
      obtain ⟨a22, c22, rfl, hwd22⟩ := hr22.words hsh22
      have hck22 := check_b a22 c22 (ws ++ [[120]]) w22 hwd22 db HDB.out
      have hl22 : (ws ++ [[120]]).length = n + 1 := by rw [List.length_append, HWL.out]; rfl
      rw [hl22] at hck22
      have HCk22 := Lib.hid hck22
      have hb22 := HB7.out.trans (hr22.2.mono hsz7b)
      have HB22 := Lib.hid hb22
      clear hown22 hgrow22 hr22 hr21 hwd22 hck22 hwl hb22 c0 c1 c2 c3 c4 c5 c6
      rw [hl22]
      clear hl22
      go_wp2_with fail
      refine HCk22.out.mono ?_
      rintro e w23 ⟨s1, s2, s3, s4, s5, s6, s7, rfl, hb23⟩
      have hb23' := HB22.out.trans (hb23.mono HB22.out.size)
      obtain ⟨c0, c1, c2, c3, c4, c5, c6⟩ := HS.out _ hb23'
      simp only [Nat.zero_add] at c0 c1 c2 c3 c4 c5 c6
      have hltc2 : wc.heap.size < w23.heap.size := Nat.lt_of_lt_of_le hltr hb23'.size
      have HB23 := Lib.hid hb23'
      clear hb23 hb23'
      have hbb : ((!db) == (!db)) = true := by cases db <;> rfl
      go_wp2_with (go_at_call 8; refine (awake_any _).mono ?_; rintro e w24 ⟨rfl, hb24⟩; have HB24 := Lib.hid hb24; clear hb24)
      go_ret
      exact ⟨rfl, (HB3.out.trans (HRow.out.2.mono HB3.out.size)).trans (((HB23.out.alloc HB23.out.size _).trans (HB24.out.mono (by have := HB23.out.size; first | omega | (simp; omega)))).mono (Nat.le_trans HB3.out.size HRow.out.2.size))⟩

set_option maxRecDepth 100000 in
set_option maxHeartbeats 4000000 in
theorem cmdKeys_A (which more : Int) (w : World) (hw : 0 ≤ which ∧ which ≤ 255) (hm : 0 ≤ more ∧ more ≤ 255) (s : Cm.Sp) (j q : Nat) (hj : which % 54 = (j : Int)) (hj2 : j < 54) (hq : more % 20 = (q : Int)) (hq2 : q < 20) (hf : Cm.findS (Cm.names.getD j []) = some s) (hnm : s.nm = Cm.names.getD j []) (hok : Cm.Ok s)
    (g1 : (Cm.checkS (Cm.kW s)).isSome = true) (g2 : (Cm.checkS ((Cm.kW s).take (s.least.toNat - 1))).isSome = false) (g3 : s.first = 0 ↔ Cm.keysOf (Cm.kW s) = []) (g4 : s.first ≠ 0 → (Cm.keysOf (Cm.kW s)).getD 0 [] = [107, 49] ∧ Cm.checkS ((Cm.kW s).set 1 Cm.longK) = none)
    (g5 : s.most ≠ 0 → (!(Cm.checkS (Cm.kW s ++ [[120]])).isSome) = decide (s.most = s.least)) (g6 : s.most = 0 → ∀ j, j < 20 → (Cm.checkS (Cm.kW s ++ List.replicate (2 * j) [109])).isSome = true) (hc : s.first = 1 ∧ s.most ≠ 0) :
    Calls Try.prog 5 #[.int .u8 which, .int .u8 more] w fun e w' => e = .returned (.bool true) ∧ Below w.heap.size w w' := by
  obtain ⟨i0, hi, hz0, hz1, hz2⟩ := info_parts info9
  have _ := hq2
  obtain ⟨w1, w2⟩ := hw
  obtain ⟨m1, m2⟩ := hm
  have hnl := Cm.names_len
  have hns : ∀ t ∈ Cm.names, t.length ≤ 9 := Cm.names_short
  have hnj : (Cm.names.getD j []).length ≤ 9 := by rw [Cm.getD_eq (by omega)]; exact hns _ (List.getElem_mem _)
  have hfd := fun W => find_c (Cm.names.getD j []) W (by omega)
  unfold findV at hfd
  rw [hf] at hfd
  have HFd := Lib.hid hfd
  have hjT : (which % 54).toNat = j := by omega
  have hj0 : 0 ≤ which % 54 := by omega
  have hj1 : which % 54 < 54 := by omega
  have HJj := Lib.hid hj
  have HQq := Lib.hid hq
  have HL := Lib.hid hnl
  have HNm := Lib.hid hnm
  obtain ⟨hk1, hk2, hl1, hl4, hmo1, hmo4, hok'⟩ := hok
  have HG1 := Lib.hid g1
  have HG2 := Lib.hid g2
  have HG3 := Lib.hid g3
  have HG4 := Lib.hid g4
  have HG5 := Lib.hid g5
  have HG6 := Lib.hid g6
  clear hfd hf hns hj hq hnl hnm g1 g2 g3 g4 g5 g6
  obtain ⟨nm, hnm0⟩ : ∃ nm, Cm.names.getD j [] = nm := ⟨_, rfl⟩
  have HN0 := Lib.hid hnm0
  rw [hnm0] at HFd HNm hnj
  clear hnm0
  obtain ⟨snm, least, most, first, last, step, wb⟩ := s
  simp only at *
  obtain ⟨rfl, hmo⟩ := hc
  obtain ⟨L, rfl⟩ := Int.eq_ofNat_of_zero_le (show 0 ≤ least by omega)
  have hL4 : L ≤ 4 := by omega
  have hL1 : 1 ≤ L := by omega
  go_enter Try.func5, Try.ntmps5
  go_upto_region 7 with (first
    | (go_at_call 16; refine (names_c _).mono ?_; rintro e wa ⟨aa, ca, rfl, hwd, hba⟩; rw [HL.out]; have HBa := Lib.hid hba; obtain ⟨ba, oa, rfl, hlta, hca⟩ := hwd.get (by rw [HL.out]; omega); have qn := hca j (by rw [HL.out]; exact hj2); rw [HN0.out] at qn; clear hba hwd hca)
    | (go_at_call 11; refine (HFd.out _).mono ?_; rintro e wc ⟨rfl, hbc⟩; have HBc := Lib.hid hbc; clear hbc; simp only [spV]))
  obtain ⟨w3, hw3⟩ : ∃ w3, wc.alloc (.cells #[.string ⟨snm.toArray⟩, .int .i64 (L : Int), .int .i64 most, .int .i64 1, .int .i64 last, .int .i64 step, .bool wb] 26) = w3 := ⟨_, rfl⟩
  have hs3 : SpBox w3 wc.heap.size ⟨snm, (L : Int), most, 1, last, step, wb⟩ := by rw [← hw3]; exact World.alloc_heap_new wc _
  have hb3 : Below w.heap.size w w3 := by
    have h1 := HBa.out.trans (HBc.out.mono HBa.out.size)
    rw [← hw3]; exact h1.alloc h1.size _
  have hlt3 := hs3.lt
  rw [hw3]
  have HS3 := Lib.hid hs3
  have HB3 := Lib.hid hb3
  have hr0 := RowW.one (Below.refl w3.heap.size w3) snm
  obtain ⟨c0, c1, c2, c3, c4, c5, c6⟩ := hs3.at
  simp only [Nat.zero_add] at c0 c1 c2 c3 c4 c5 c6
  have hkw0 : Cm.kwTo snm 0 = [snm] := rfl
  rw [← hkw0] at hr0
  have HR0 := Lib.hid hr0
  clear hw3 hs3 hb3 hr0 hkw0
  go_wp2
  clear c0 c1 c2 c3 c4 c5 c6
  go_loopw [8] (fun v wr => ∃ (n : Nat) (a : Option Addr) (cap : Nat), 1 ≤ n ∧ n ≤ L ∧ v = .slice a n cap ∧ Hid (RowW w3 (.slice a n cap) (Cm.kwTo snm (n - 1)) wr)) (fun v _ => L - lenV v)
  case atStart => exact ⟨1, _, 1, Nat.le_refl _, by omega, rfl, HR0⟩
  case round =>
    obtain ⟨n, a, cap, hn1, hnL, rfl, HRm⟩ := hrel
    have hszr := HRm.out.2.size
    have e1 := (HRm.out.2.cell (p := ⟨wc.heap.size, 1, none⟩) hlt3).trans HS3.out.at.2.1
    by_cases hlt : n < L
    · have hltI : (n : Int) < (L : Int) := by omega
      have hdig := fun W => digits_c n W (by omega)
      have hcat := str_two 107 (Cm.dg n)
      have hkl := @Cm.kd_len n
      have hkm : Cm.kd n = 107 :: Cm.dg n := rfl
      rw [← hkm] at hcat
      have hdl : (Cm.dg n).length ≤ 3 := by rw [hkm] at hkl; simp at hkl; omega
      have hst1 : Cm.kwTo snm n = Cm.kwTo snm (n - 1) ++ [Cm.kd n] := by
        obtain ⟨n', rfl⟩ : ∃ n', n = n' + 1 := ⟨n - 1, by omega⟩
        rfl
      have HS1 := Lib.hid hst1
      have HD := Lib.hid hdig
      have HLen := Lib.hid (show (Cm.kwTo snm (n - 1)).length = n by rw [Cm.kwTo_len]; omega)
      clear hst1 hdig hkm
      generalize Cm.kd n = km at *
      generalize Cm.dg n = dm at *
      go_wp2_with (first | (go_at_call 18; refine (HD.out _).mono ?_; rintro e w5 ⟨rfl, hb5⟩; have hr5 := HRm.out.later hb5; have hsz5 := hr5.2.size; clear hb5) | (at_builtin; refine wpList_append_own _ rfl (.tmp 58) (.tmp 63) 22 rfl w3.heap.size 9 i0 (.string ⟨#[]⟩) 1 16 Try.underlying22 hi hz0 hz1 hz2 rfl (by decide) _ _ _ rfl (hr5.1.alloc _) ⟨w5.heap.size, 0, none⟩ 1 1 [.string ⟨km.toArray⟩] rfl rfl ?b1 ?b2 ?b3 ?b4 ?b5 ?_))
      case b1 => exact one_news _ _ rfl _ _
      case b2 => intro u hu; simp at hu; subst hu; rfl
      case b3 => rw [HLen.out]; unfold maxLen; omega
      case b4 => rw [HLen.out]; omega
      case b5 => simp; omega
      intro v6 w6 hown6 hgrow6 _
      have hr6 : RowW w3 v6 (Cm.kwTo snm n) w6 := by rw [HS1.out]; exact hr5.append hown6 hgrow6
      obtain ⟨a6, c6, rfl, -⟩ := hr6.words (fun t ht => by have := Cm.kwTo_short (nm := snm) (by omega) n t ht; omega)
      rw [Cm.kwTo_len] at hr6
      have HR6 := Lib.hid hr6
      clear hown6 hgrow6 hr5 hr6 hcat
      rw [Cm.kwTo_len]
      go_wp2
      go_roundw
      case rel => exact ⟨n + 1, _, _, by omega, by omega, rfl, HR6⟩
      case measure => simp [lenV]; omega
    · obtain rfl : n = L := by omega
      clear hlt
      obtain ⟨ws, hws⟩ : ∃ ws, Cm.kwTo snm (n - 1) = ws := ⟨_, rfl⟩
      have hkW : Cm.kW ⟨snm, (n : Int), most, 1, last, step, wb⟩ = ws := by rw [← hws]; simp [Cm.kW]
      have hwl : ws.length = n := by rw [← hws, Cm.kwTo_len]; omega
      have hwsh : ∀ t ∈ ws, t.length ≤ 9223372036854775807 := fun t ht => by have := Cm.kwTo_short (nm := snm) (by omega) (n - 1) t (hws ▸ ht); omega
      rw [hws] at HRm
      rw [hkW] at HG1 HG2 HG3 HG4 HG5 HG6
      simp only [Int.toNat_natCast] at HG2
      have hwd := HRm.out.wds hwsh
      obtain ⟨b0, o0, rfl, hb0, -⟩ := hwd.get (by omega)
      have HW : Hid (∀ W, Below wr.heap.size wr W → Wds W (some ⟨b0, o0, none⟩) cap ws) := Lib.hid fun W h => hwd.later h
      have HS : Hid (∀ W, Below wr.heap.size wr W → SpAt W wc.heap.size 0 ⟨snm, (n : Int), most, 1, last, step, wb⟩) := Lib.hid fun W h => HS3.out.at.keep fun j => (HRm.out.2.trans (h.mono HRm.out.2.size)).cell (p := ⟨wc.heap.size, j, none⟩) hlt3
      have hltr : wc.heap.size < wr.heap.size := Nat.lt_of_lt_of_le hlt3 hszr
      have HCA : Hid (∀ W, Below wr.heap.size wr W → Calls Try.prog 9 #[.slice (some ⟨b0, o0, none⟩) n cap] W fun e W' => (∃ nm l m f la st wb, e = .returned (.tuple #[.agg #[.string ⟨nm⟩, .int .i64 l, .int .i64 m, .int .i64 f, .int .i64 la, .int .i64 st, .bool wb], .bool true])) ∧ Below wr.heap.size wr W') := Lib.hid fun W h => by
        have := check_b (some ⟨b0, o0, none⟩) cap ws W (HW.out W h) true HG1.out
        rw [hwl] at this
        exact this.mono fun e W' ⟨a1, a2, a3, a4, a5, a6, a7, he, hb⟩ => ⟨⟨a1, a2, a3, a4, a5, a6, a7, he⟩, h.trans (hb.mono h.size)⟩
      have HCB : Hid (∀ W, Below wr.heap.size wr W → Calls Try.prog 9 #[.slice (some ⟨b0, o0, none⟩) (n - 1) cap] W fun e W' => (∃ nm l m f la st wb, e = .returned (.tuple #[.agg #[.string ⟨nm⟩, .int .i64 l, .int .i64 m, .int .i64 f, .int .i64 la, .int .i64 st, .bool wb], .bool false])) ∧ Below wr.heap.size wr W') := Lib.hid fun W h => by
        have := check_b (some ⟨b0, o0, none⟩) cap (ws.take (n - 1)) W ((HW.out W h).take _) false HG2.out
        rw [List.length_take, hwl, Nat.min_eq_left (by omega)] at this
        exact this.mono fun e W' ⟨a1, a2, a3, a4, a5, a6, a7, he, hb⟩ => ⟨⟨a1, a2, a3, a4, a5, a6, a7, he⟩, h.trans (hb.mono h.size)⟩
      have HCK : Hid (∀ W, Below wr.heap.size wr W → Calls Try.prog 14 #[.slice (some ⟨b0, o0, none⟩) n cap] W fun e W' => (∃ b off c kl, e = .returned (.slice (some ⟨b, off, none⟩) kl c) ∧ 0 < kl ∧ kl ≤ c ∧ c ≤ 9223372036854775807 ∧ W'.cell? ⟨b, off, none⟩ = some (.string ⟨#[107, 49]⟩)) ∧ Below wr.heap.size wr W') := Lib.hid fun W h => by
        have := keys_c (some ⟨b0, o0, none⟩) cap ws W (HW.out W h)
        rw [hwl] at this
        refine this.mono fun e W' ⟨a1, c1, he, hwd', hb⟩ => ⟨?_, h.trans (hb.mono h.size)⟩
        subst he
        have hk1 := (HG4.out (by decide)).1
        have hne : 0 < (Cm.keysOf ws).length := by
          rcases Nat.eq_zero_or_pos (Cm.keysOf ws).length with h0 | h0
          · rw [List.eq_nil_of_length_eq_zero h0] at hk1; cases hk1
          · exact h0
        obtain ⟨b, off, rfl, _, hc⟩ := hwd'.get hne
        have := hc 0 hne
        rw [hk1] at this
        exact ⟨b, off, c1, _, rfl, hne, hwd'.1, hwd'.2.1, this⟩
      have hn1' : ((n : Int) - 1).toNat = n - 1 := by omega
      have hn0 : 0 ≤ (n : Int) - 1 := by omega
      have hnc : n ≤ cap := by have := hwd.1; omega
      have hncI : (n : Int) - 1 ≤ (cap : Int) := by omega
      have hnn : (n : Int) - 1 ≤ (n : Int) := by omega
      have HRow := Lib.hid HRm.out
      have HWL := Lib.hid hwl
      have HWS := Lib.hid hwsh
      clear hws hkW hwl hwsh hwd HRm
      go_wp2_with fail
      refine (HCA.out _ (Below.refl _ _)).mono ?_
      rintro e w5 ⟨⟨p1, p2, p3, p4, p5, p6, p7, rfl⟩, hb5⟩
      have HB5 := Lib.hid hb5
      clear hb5
      go_wp2_with fail
      refine (HCB.out _ (HB5.out.alloc HB5.out.size _)).mono ?_
      rintro e w6 ⟨⟨q1, q2, q3, q4, q5, q6, q7, rfl⟩, hb6⟩
      have HB6 := Lib.hid hb6
      clear hb6
      go_wp2_with fail
      refine (HCK.out _ (HB6.out.alloc HB6.out.size _)).mono ?_
      rintro e w7 ⟨⟨bk, ok, ck, kl, rfl, hkl, hkc, hkc2, ck0⟩, hb7⟩
      obtain ⟨c0, c1, c2, c3, c4, c5, c6⟩ := HS.out _ hb7
      simp only [Nat.zero_add] at c0 c1 c2 c3 c4 c5 c6
      have hsz7 := hb7.size
      have HB7 := Lib.hid hb7
      clear hb7
      have hk0 : ((kl : Int) == 0) = false := by rw [beq_eq_false_iff_ne]; omega
      have hk00 : (0 : Int) < (kl : Int) := by omega
      have hn2 : (1 : Int) < (n : Int) := by omega
      have HKey := Lib.hid (HG4.out (by decide)).2
      have hr0 := RowW.none (Below.refl w7.heap.size w7)
      have hnews := news_of (HW.out (w7.alloc (.cells #[] 9)) (HB7.out.alloc hsz7 _))
      have HNews := Lib.hid hnews
      clear hnews
      go_upto_region 17 with (at_builtin; refine wpList_append_own _ rfl (.tmp 109) (.tmp 110) 22 rfl w7.heap.size 9 i0 (.string ⟨#[]⟩) 1 16 Try.underlying22 hi hz0 hz1 hz2 rfl (by decide) _ _ _ rfl hr0.1 ⟨b0, o0, none⟩ n cap (wcells ws) rfl (by have := HWL.out; simp [wcells, this]) HNews.out news_one ?g3 ?g4 ?g5 ?_)
      case g3 => unfold maxLen; simp; omega
      case g4 => simp; omega
      case g5 => simp
      intro v9 w9 hown9 hgrow9 _
      rw [← HWL.out] at hown9
      have hr9 : RowW w7 v9 ws w9 := hr0.copied hown9 hgrow9
      obtain ⟨a9, c9, rfl, hwd9, hfz9⟩ := wds_of_row hr9.1 HWS.out
      obtain ⟨g9, rfl, hg9, hg9l, hfz⟩ := hfz9 (by intro h; have := HWL.out; rw [h] at this; simp at this; omega)
      have hc9 := hwd9.get (by have := HWL.out; omega)
      obtain ⟨b', o', he', _, hc9⟩ := hc9
      cases he'
      have q9 := hc9 1 (by have := HWL.out; omega)
      have q9f := hfz 1
      rw [Nat.zero_add] at q9
      have hl9 := HWL.out
      have HWd9 := Lib.hid hwd9
      have HB9 := Lib.hid (HB7.out.trans (hr9.2.mono hsz7))
      have hg9r : wr.heap.size ≤ g9 := by omega
      clear hown9 hgrow9 hr9 hr0 hwd9 hfz9 hfz hc9
      rw [hl9]
      generalize ws.getD 1 [] = oldw at q9
      clear hl9
      go_upto_region 18 with (fail)
      obtain ⟨w10, hw10⟩ : ∃ w10, w9.setCell ⟨g9, 1, none⟩ (.string ⟨#[48, 49, 50, 51, 52, 53, 54, 55, 56, 57, 48, 49, 50, 51, 52, 53, 54, 55, 56, 57, 48, 49, 50, 51, 52, 53, 54, 55, 56, 57, 48, 49, 50, 51, 52, 53, 54, 55, 56, 57, 120]⟩) = w10 := ⟨_, rfl⟩
      have hb10 : Below wr.heap.size wr w10 := by rw [← hw10]; exact HB9.out.setCell (p := ⟨g9, 1, none⟩) hg9r _
      have hwd10 : Wds w10 (some ⟨g9, 0, none⟩) c9 (ws.set 1 Cm.longK) := by
        rw [← hw10]
        exact HWd9.out.set 1 Cm.longK (by have := HWL.out; omega) (by decide)
      rw [hw10]
      have hlck := check_b (some ⟨g9, 0, none⟩) c9 (ws.set 1 Cm.longK) w10 hwd10 false (by rw [HKey.out]; rfl)
      rw [List.length_set, HWL.out] at hlck
      have HLC : Hid (Calls Try.prog 9 #[.slice (some ⟨g9, 0, none⟩) n c9] w10 fun e W' => (∃ nm l m f la st wb, e = .returned (.tuple #[.agg #[.string ⟨nm⟩, .int .i64 l, .int .i64 m, .int .i64 f, .int .i64 la, .int .i64 st, .bool wb], .bool false])) ∧ Below w10.heap.size w10 W') := Lib.hid (hlck.mono fun e W' ⟨a1, a2, a3, a4, a5, a6, a7, he, hb⟩ => ⟨⟨a1, a2, a3, a4, a5, a6, a7, he⟩, hb⟩)
      have HLK : Hid (∀ W, Below w10.heap.size w10 W → Calls Try.prog 14 #[.slice (some ⟨g9, 0, none⟩) n c9] W fun e W' => (∃ a c, e = .returned (.slice a 0 c)) ∧ Below w10.heap.size w10 W') := Lib.hid fun W h => by
        have := keys_c (some ⟨g9, 0, none⟩) c9 (ws.set 1 Cm.longK) W (hwd10.later h)
        rw [List.length_set, HWL.out, Cm.keysOf_none HKey.out] at this
        exact this.mono fun e W' ⟨a1, c1, he, _, hb⟩ => ⟨⟨a1, c1, he⟩, h.trans (hb.mono h.size)⟩
      have HB10 := Lib.hid hb10
      clear hw10 hb10 hwd10 hlck q9 q9f c0 c1 c2 c3 c4 c5 c6
      go_wp2_with fail
      refine HLC.out.mono ?_
      rintro e w11 ⟨⟨r1, r2, r3, r4, r5, r6, r7, rfl⟩, hb11⟩
      have HB11 := Lib.hid hb11
      clear hb11
      go_wp2_with fail
      refine (HLK.out _ (HB11.out.alloc HB11.out.size _)).mono ?_
      rintro e w12 ⟨⟨al, cl, rfl⟩, hb12⟩
      have HB12 := Lib.hid (HB10.out.trans (hb12.mono HB10.out.size))
      obtain ⟨c0, c1, c2, c3, c4, c5, c6⟩ := HS.out _ HB12.out
      simp only [Nat.zero_add] at c0 c1 c2 c3 c4 c5 c6
      clear hb12

      have hsz12 := HB12.out.size
      have hmo2 : 0 < most := by omega
      obtain ⟨db, hdb⟩ : ∃ db, (Cm.checkS (ws ++ [[120]])).isSome = db := ⟨_, rfl⟩
      have hg5 := HG5.out (by omega)
      rw [hdb] at hg5
      have hcm : (most == (n : Int)) = !db := by rw [hg5]; by_cases e : most = (n : Int) <;> simp [e]
      have hltc : wc.heap.size < w12.heap.size := Nat.lt_of_lt_of_le hltr hsz12
      have hr20 := RowW.none (Below.refl w12.heap.size w12)
      have hnews2 := news_of (HW.out (w12.alloc (.cells #[] 9)) (HB12.out.alloc hsz12 _))
      have HNews2 := Lib.hid hnews2
      have HDB := Lib.hid hdb
      clear hnews2 hdb hg5
      go_wp2_with (at_builtin; refine wpList_append_own _ rfl (.tmp 130) (.tmp 131) 22 rfl w12.heap.size 9 i0 (.string ⟨#[]⟩) 1 16 Try.underlying22 hi hz0 hz1 hz2 rfl (by decide) _ _ _ rfl hr20.1 ⟨b0, o0, none⟩ n cap (wcells ws) rfl (by have := HWL.out; simp [wcells, this]) HNews2.out news_one ?k3 ?k4 ?k5 ?_)
      case k3 => unfold maxLen; simp; omega
      case k4 => simp; omega
      case k5 => simp
      intro v21 w21 hown21 hgrow21 _
      rw [← HWL.out] at hown21
      have hr21 : RowW w12 v21 ws w21 := hr20.copied hown21 hgrow21
      have hsz21 := hr21.2.size
      have hwl := HWL.out
      clear hown21 hgrow21 hr20
      go_wp2_with (at_builtin; refine wpList_append_own _ rfl (.tmp 132) (.tmp 133) 22 rfl w12.heap.size 9 i0 (.string ⟨#[]⟩) 1 16 Try.underlying22 hi hz0 hz1 hz2 rfl (by decide) _ _ _ rfl (hr21.1.alloc _) ⟨w21.heap.size, 0, none⟩ 1 1 [.string ⟨#[120]⟩] rfl rfl ?l1 ?l2 ?l3 ?l4 ?l5 ?_)
      case l1 => exact one_news _ _ rfl _ _
      case l2 => intro u hu; simp at hu; subst hu; rfl
      case l3 => rw [HWL.out]; unfold maxLen; omega
      case l4 => rw [HWL.out]; omega
      case l5 => simp; omega
      intro v22 w22 hown22 hgrow22 _
      rw [← HWL.out] at hown22
      have hr22 : RowW w12 v22 (ws ++ [[120]]) w22 := hr21.append hown22 hgrow22
      have hsh22 : ∀ t ∈ ws ++ [[120]], t.length ≤ 9223372036854775807 := fun t ht => by
        rcases List.mem_append.1 ht with h | h
        · exact HWS.out t h
        · rw [List.mem_singleton.1 h]; simp
      obtain ⟨a22, c22, rfl, hwd22⟩ := hr22.words hsh22
      have hck22 := check_b a22 c22 (ws ++ [[120]]) w22 hwd22 db HDB.out
      have hl22 : (ws ++ [[120]]).length = n + 1 := by rw [List.length_append, HWL.out]; rfl
      rw [hl22] at hck22
      have HCk22 := Lib.hid hck22
      have hb22 := HB12.out.trans (hr22.2.mono hsz12)
      have HB22 := Lib.hid hb22
      clear hown22 hgrow22 hr22 hr21 hwd22 hck22 hwl hb22 c0 c1 c2 c3 c4 c5 c6
      rw [hl22]
      clear hl22
      go_wp2_with fail
      refine HCk22.out.mono ?_
      rintro e w23 ⟨s1, s2, s3, s4, s5, s6, s7, rfl, hb23⟩
      have hb23' := HB22.out.trans (hb23.mono HB22.out.size)
      obtain ⟨c0, c1, c2, c3, c4, c5, c6⟩ := HS.out _ hb23'
      simp only [Nat.zero_add] at c0 c1 c2 c3 c4 c5 c6
      have hltc2 : wc.heap.size < w23.heap.size := Nat.lt_of_lt_of_le hltr hb23'.size
      have HB23 := Lib.hid hb23'
      clear hb23 hb23'
      have hbb : ((!db) == (!db)) = true := by cases db <;> rfl
      go_wp2_with (go_at_call 8; refine (awake_any _).mono ?_; rintro e w24 ⟨rfl, hb24⟩; have HB24 := Lib.hid hb24; clear hb24)
      go_ret
      exact ⟨rfl, (HB3.out.trans (HRow.out.2.mono HB3.out.size)).trans (((HB23.out.alloc HB23.out.size _).trans (HB24.out.mono (by have := HB23.out.size; first | omega | (simp; omega)))).mono (Nat.le_trans HB3.out.size HRow.out.2.size))⟩

set_option maxRecDepth 100000 in
set_option maxHeartbeats 4000000 in
theorem cmdKeys_M (which more : Int) (w : World) (hw : 0 ≤ which ∧ which ≤ 255) (hm : 0 ≤ more ∧ more ≤ 255) (s : Cm.Sp) (j q : Nat) (hj : which % 54 = (j : Int)) (hj2 : j < 54) (hq : more % 20 = (q : Int)) (hq2 : q < 20) (hf : Cm.findS (Cm.names.getD j []) = some s) (hnm : s.nm = Cm.names.getD j []) (hok : Cm.Ok s)
    (g1 : (Cm.checkS (Cm.kW s)).isSome = true) (g2 : (Cm.checkS ((Cm.kW s).take (s.least.toNat - 1))).isSome = false) (g3 : s.first = 0 ↔ Cm.keysOf (Cm.kW s) = []) (g4 : s.first ≠ 0 → (Cm.keysOf (Cm.kW s)).getD 0 [] = [107, 49] ∧ Cm.checkS ((Cm.kW s).set 1 Cm.longK) = none)
    (g5 : s.most ≠ 0 → (!(Cm.checkS (Cm.kW s ++ [[120]])).isSome) = decide (s.most = s.least)) (g6 : s.most = 0 → ∀ j, j < 20 → (Cm.checkS (Cm.kW s ++ List.replicate (2 * j) [109])).isSome = true) (hc : s.first = 1 ∧ s.most = 0) :
    Calls Try.prog 5 #[.int .u8 which, .int .u8 more] w fun e w' => e = .returned (.bool true) ∧ Below w.heap.size w w' := by
  obtain ⟨i0, hi, hz0, hz1, hz2⟩ := info_parts info9
  have _ := hq2
  obtain ⟨w1, w2⟩ := hw
  obtain ⟨m1, m2⟩ := hm
  have hnl := Cm.names_len
  have hns : ∀ t ∈ Cm.names, t.length ≤ 9 := Cm.names_short
  have hnj : (Cm.names.getD j []).length ≤ 9 := by rw [Cm.getD_eq (by omega)]; exact hns _ (List.getElem_mem _)
  have hfd := fun W => find_c (Cm.names.getD j []) W (by omega)
  unfold findV at hfd
  rw [hf] at hfd
  have HFd := Lib.hid hfd
  have hjT : (which % 54).toNat = j := by omega
  have hj0 : 0 ≤ which % 54 := by omega
  have hj1 : which % 54 < 54 := by omega
  have HJj := Lib.hid hj
  have HQq := Lib.hid hq
  have HL := Lib.hid hnl
  have HNm := Lib.hid hnm
  obtain ⟨hk1, hk2, hl1, hl4, hmo1, hmo4, hok'⟩ := hok
  have HG1 := Lib.hid g1
  have HG2 := Lib.hid g2
  have HG3 := Lib.hid g3
  have HG4 := Lib.hid g4
  have HG5 := Lib.hid g5
  have HG6 := Lib.hid g6
  clear hfd hf hns hj hq hnl hnm g1 g2 g3 g4 g5 g6
  obtain ⟨nm, hnm0⟩ : ∃ nm, Cm.names.getD j [] = nm := ⟨_, rfl⟩
  have HN0 := Lib.hid hnm0
  rw [hnm0] at HFd HNm hnj
  clear hnm0
  obtain ⟨snm, least, most, first, last, step, wb⟩ := s
  simp only at *
  obtain ⟨rfl, rfl⟩ := hc
  obtain ⟨L, rfl⟩ := Int.eq_ofNat_of_zero_le (show 0 ≤ least by omega)
  have hL4 : L ≤ 4 := by omega
  have hL1 : 1 ≤ L := by omega
  go_enter Try.func5, Try.ntmps5
  go_upto_region 7 with (first
    | (go_at_call 16; refine (names_c _).mono ?_; rintro e wa ⟨aa, ca, rfl, hwd, hba⟩; rw [HL.out]; have HBa := Lib.hid hba; obtain ⟨ba, oa, rfl, hlta, hca⟩ := hwd.get (by rw [HL.out]; omega); have qn := hca j (by rw [HL.out]; exact hj2); rw [HN0.out] at qn; clear hba hwd hca)
    | (go_at_call 11; refine (HFd.out _).mono ?_; rintro e wc ⟨rfl, hbc⟩; have HBc := Lib.hid hbc; clear hbc; simp only [spV]))
  obtain ⟨w3, hw3⟩ : ∃ w3, wc.alloc (.cells #[.string ⟨snm.toArray⟩, .int .i64 (L : Int), .int .i64 0, .int .i64 1, .int .i64 last, .int .i64 step, .bool wb] 26) = w3 := ⟨_, rfl⟩
  have hs3 : SpBox w3 wc.heap.size ⟨snm, (L : Int), 0, 1, last, step, wb⟩ := by rw [← hw3]; exact World.alloc_heap_new wc _
  have hb3 : Below w.heap.size w w3 := by
    have h1 := HBa.out.trans (HBc.out.mono HBa.out.size)
    rw [← hw3]; exact h1.alloc h1.size _
  have hlt3 := hs3.lt
  rw [hw3]
  have HS3 := Lib.hid hs3
  have HB3 := Lib.hid hb3
  have hr0 := RowW.one (Below.refl w3.heap.size w3) snm
  obtain ⟨c0, c1, c2, c3, c4, c5, c6⟩ := hs3.at
  simp only [Nat.zero_add] at c0 c1 c2 c3 c4 c5 c6
  have hkw0 : Cm.kwTo snm 0 = [snm] := rfl
  rw [← hkw0] at hr0
  have HR0 := Lib.hid hr0
  clear hw3 hs3 hb3 hr0 hkw0
  go_wp2
  clear c0 c1 c2 c3 c4 c5 c6
  go_loopw [8] (fun v wr => ∃ (n : Nat) (a : Option Addr) (cap : Nat), 1 ≤ n ∧ n ≤ L ∧ v = .slice a n cap ∧ Hid (RowW w3 (.slice a n cap) (Cm.kwTo snm (n - 1)) wr)) (fun v _ => L - lenV v)
  case atStart => exact ⟨1, _, 1, Nat.le_refl _, by omega, rfl, HR0⟩
  case round =>
    obtain ⟨n, a, cap, hn1, hnL, rfl, HRm⟩ := hrel
    have hszr := HRm.out.2.size
    have e1 := (HRm.out.2.cell (p := ⟨wc.heap.size, 1, none⟩) hlt3).trans HS3.out.at.2.1
    by_cases hlt : n < L
    · have hltI : (n : Int) < (L : Int) := by omega
      have hdig := fun W => digits_c n W (by omega)
      have hcat := str_two 107 (Cm.dg n)
      have hkl := @Cm.kd_len n
      have hkm : Cm.kd n = 107 :: Cm.dg n := rfl
      rw [← hkm] at hcat
      have hdl : (Cm.dg n).length ≤ 3 := by rw [hkm] at hkl; simp at hkl; omega
      have hst1 : Cm.kwTo snm n = Cm.kwTo snm (n - 1) ++ [Cm.kd n] := by
        obtain ⟨n', rfl⟩ : ∃ n', n = n' + 1 := ⟨n - 1, by omega⟩
        rfl
      have HS1 := Lib.hid hst1
      have HD := Lib.hid hdig
      have HLen := Lib.hid (show (Cm.kwTo snm (n - 1)).length = n by rw [Cm.kwTo_len]; omega)
      clear hst1 hdig hkm
      generalize Cm.kd n = km at *
      generalize Cm.dg n = dm at *
      go_wp2_with (first | (go_at_call 18; refine (HD.out _).mono ?_; rintro e w5 ⟨rfl, hb5⟩; have hr5 := HRm.out.later hb5; have hsz5 := hr5.2.size; clear hb5) | (at_builtin; refine wpList_append_own _ rfl (.tmp 58) (.tmp 63) 22 rfl w3.heap.size 9 i0 (.string ⟨#[]⟩) 1 16 Try.underlying22 hi hz0 hz1 hz2 rfl (by decide) _ _ _ rfl (hr5.1.alloc _) ⟨w5.heap.size, 0, none⟩ 1 1 [.string ⟨km.toArray⟩] rfl rfl ?b1 ?b2 ?b3 ?b4 ?b5 ?_))
      case b1 => exact one_news _ _ rfl _ _
      case b2 => intro u hu; simp at hu; subst hu; rfl
      case b3 => rw [HLen.out]; unfold maxLen; omega
      case b4 => rw [HLen.out]; omega
      case b5 => simp; omega
      intro v6 w6 hown6 hgrow6 _
      have hr6 : RowW w3 v6 (Cm.kwTo snm n) w6 := by rw [HS1.out]; exact hr5.append hown6 hgrow6
      obtain ⟨a6, c6, rfl, -⟩ := hr6.words (fun t ht => by have := Cm.kwTo_short (nm := snm) (by omega) n t ht; omega)
      rw [Cm.kwTo_len] at hr6
      have HR6 := Lib.hid hr6
      clear hown6 hgrow6 hr5 hr6 hcat
      rw [Cm.kwTo_len]
      go_wp2
      go_roundw
      case rel => exact ⟨n + 1, _, _, by omega, by omega, rfl, HR6⟩
      case measure => simp [lenV]; omega
    · obtain rfl : n = L := by omega
      clear hlt
      obtain ⟨ws, hws⟩ : ∃ ws, Cm.kwTo snm (n - 1) = ws := ⟨_, rfl⟩
      have hkW : Cm.kW ⟨snm, (n : Int), 0, 1, last, step, wb⟩ = ws := by rw [← hws]; simp [Cm.kW]
      have hwl : ws.length = n := by rw [← hws, Cm.kwTo_len]; omega
      have hwsh : ∀ t ∈ ws, t.length ≤ 9223372036854775807 := fun t ht => by have := Cm.kwTo_short (nm := snm) (by omega) (n - 1) t (hws ▸ ht); omega
      rw [hws] at HRm
      rw [hkW] at HG1 HG2 HG3 HG4 HG5 HG6
      simp only [Int.toNat_natCast] at HG2
      have hwd := HRm.out.wds hwsh
      obtain ⟨b0, o0, rfl, hb0, -⟩ := hwd.get (by omega)
      have HW : Hid (∀ W, Below wr.heap.size wr W → Wds W (some ⟨b0, o0, none⟩) cap ws) := Lib.hid fun W h => hwd.later h
      have HS : Hid (∀ W, Below wr.heap.size wr W → SpAt W wc.heap.size 0 ⟨snm, (n : Int), 0, 1, last, step, wb⟩) := Lib.hid fun W h => HS3.out.at.keep fun j => (HRm.out.2.trans (h.mono HRm.out.2.size)).cell (p := ⟨wc.heap.size, j, none⟩) hlt3
      have hltr : wc.heap.size < wr.heap.size := Nat.lt_of_lt_of_le hlt3 hszr
      have HCA : Hid (∀ W, Below wr.heap.size wr W → Calls Try.prog 9 #[.slice (some ⟨b0, o0, none⟩) n cap] W fun e W' => (∃ nm l m f la st wb, e = .returned (.tuple #[.agg #[.string ⟨nm⟩, .int .i64 l, .int .i64 m, .int .i64 f, .int .i64 la, .int .i64 st, .bool wb], .bool true])) ∧ Below wr.heap.size wr W') := Lib.hid fun W h => by
        have := check_b (some ⟨b0, o0, none⟩) cap ws W (HW.out W h) true HG1.out
        rw [hwl] at this
        exact this.mono fun e W' ⟨a1, a2, a3, a4, a5, a6, a7, he, hb⟩ => ⟨⟨a1, a2, a3, a4, a5, a6, a7, he⟩, h.trans (hb.mono h.size)⟩
      have HCB : Hid (∀ W, Below wr.heap.size wr W → Calls Try.prog 9 #[.slice (some ⟨b0, o0, none⟩) (n - 1) cap] W fun e W' => (∃ nm l m f la st wb, e = .returned (.tuple #[.agg #[.string ⟨nm⟩, .int .i64 l, .int .i64 m, .int .i64 f, .int .i64 la, .int .i64 st, .bool wb], .bool false])) ∧ Below wr.heap.size wr W') := Lib.hid fun W h => by
        have := check_b (some ⟨b0, o0, none⟩) cap (ws.take (n - 1)) W ((HW.out W h).take _) false HG2.out
        rw [List.length_take, hwl, Nat.min_eq_left (by omega)] at this
        exact this.mono fun e W' ⟨a1, a2, a3, a4, a5, a6, a7, he, hb⟩ => ⟨⟨a1, a2, a3, a4, a5, a6, a7, he⟩, h.trans (hb.mono h.size)⟩
      have HCK : Hid (∀ W, Below wr.heap.size wr W → Calls Try.prog 14 #[.slice (some ⟨b0, o0, none⟩) n cap] W fun e W' => (∃ b off c kl, e = .returned (.slice (some ⟨b, off, none⟩) kl c) ∧ 0 < kl ∧ kl ≤ c ∧ c ≤ 9223372036854775807 ∧ W'.cell? ⟨b, off, none⟩ = some (.string ⟨#[107, 49]⟩)) ∧ Below wr.heap.size wr W') := Lib.hid fun W h => by
        have := keys_c (some ⟨b0, o0, none⟩) cap ws W (HW.out W h)
        rw [hwl] at this
        refine this.mono fun e W' ⟨a1, c1, he, hwd', hb⟩ => ⟨?_, h.trans (hb.mono h.size)⟩
        subst he
        have hk1 := (HG4.out (by decide)).1
        have hne : 0 < (Cm.keysOf ws).length := by
          rcases Nat.eq_zero_or_pos (Cm.keysOf ws).length with h0 | h0
          · rw [List.eq_nil_of_length_eq_zero h0] at hk1; cases hk1
          · exact h0
        obtain ⟨b, off, rfl, _, hc⟩ := hwd'.get hne
        have := hc 0 hne
        rw [hk1] at this
        exact ⟨b, off, c1, _, rfl, hne, hwd'.1, hwd'.2.1, this⟩
      have hn1' : ((n : Int) - 1).toNat = n - 1 := by omega
      have hn0 : 0 ≤ (n : Int) - 1 := by omega
      have hnc : n ≤ cap := by have := hwd.1; omega
      have hncI : (n : Int) - 1 ≤ (cap : Int) := by omega
      have hnn : (n : Int) - 1 ≤ (n : Int) := by omega
      have HRow := Lib.hid HRm.out
      have HWL := Lib.hid hwl
      have HWS := Lib.hid hwsh
      clear hws hkW hwl hwsh hwd HRm
      go_wp2_with fail
      refine (HCA.out _ (Below.refl _ _)).mono ?_
      rintro e w5 ⟨⟨p1, p2, p3, p4, p5, p6, p7, rfl⟩, hb5⟩
      have HB5 := Lib.hid hb5
      clear hb5
      go_wp2_with fail
      refine (HCB.out _ (HB5.out.alloc HB5.out.size _)).mono ?_
      rintro e w6 ⟨⟨q1, q2, q3, q4, q5, q6, q7, rfl⟩, hb6⟩
      have HB6 := Lib.hid hb6
      clear hb6
      go_wp2_with fail
      refine (HCK.out _ (HB6.out.alloc HB6.out.size _)).mono ?_
      rintro e w7 ⟨⟨bk, ok, ck, kl, rfl, hkl, hkc, hkc2, ck0⟩, hb7⟩
      obtain ⟨c0, c1, c2, c3, c4, c5, c6⟩ := HS.out _ hb7
      simp only [Nat.zero_add] at c0 c1 c2 c3 c4 c5 c6
      have hsz7 := hb7.size
      have HB7 := Lib.hid hb7
      clear hb7
      have hk0 : ((kl : Int) == 0) = false := by rw [beq_eq_false_iff_ne]; omega
      have hk00 : (0 : Int) < (kl : Int) := by omega
      have hn2 : (1 : Int) < (n : Int) := by omega
      have HKey := Lib.hid (HG4.out (by decide)).2
      have hr0 := RowW.none (Below.refl w7.heap.size w7)
      have hnews := news_of (HW.out (w7.alloc (.cells #[] 9)) (HB7.out.alloc hsz7 _))
      have HNews := Lib.hid hnews
      clear hnews
      go_upto_region 17 with (at_builtin; refine wpList_append_own _ rfl (.tmp 109) (.tmp 110) 22 rfl w7.heap.size 9 i0 (.string ⟨#[]⟩) 1 16 Try.underlying22 hi hz0 hz1 hz2 rfl (by decide) _ _ _ rfl hr0.1 ⟨b0, o0, none⟩ n cap (wcells ws) rfl (by have := HWL.out; simp [wcells, this]) HNews.out news_one ?g3 ?g4 ?g5 ?_)
      case g3 => unfold maxLen; simp; omega
      case g4 => simp; omega
      case g5 => simp
      intro v9 w9 hown9 hgrow9 _
      rw [← HWL.out] at hown9
      have hr9 : RowW w7 v9 ws w9 := hr0.copied hown9 hgrow9
      obtain ⟨a9, c9, rfl, hwd9, hfz9⟩ := wds_of_row hr9.1 HWS.out
      obtain ⟨g9, rfl, hg9, hg9l, hfz⟩ := hfz9 (by intro h; have := HWL.out; rw [h] at this; simp at this; omega)
      have hc9 := hwd9.get (by have := HWL.out; omega)
      obtain ⟨b', o', he', _, hc9⟩ := hc9
      cases he'
      have q9 := hc9 1 (by have := HWL.out; omega)
      have q9f := hfz 1
      rw [Nat.zero_add] at q9
      have hl9 := HWL.out
      have HWd9 := Lib.hid hwd9
      have HB9 := Lib.hid (HB7.out.trans (hr9.2.mono hsz7))
      have hg9r : wr.heap.size ≤ g9 := by omega
      clear hown9 hgrow9 hr9 hr0 hwd9 hfz9 hfz hc9
      rw [hl9]
      generalize ws.getD 1 [] = oldw at q9
      clear hl9
      go_upto_region 18 with (fail)
      obtain ⟨w10, hw10⟩ : ∃ w10, w9.setCell ⟨g9, 1, none⟩ (.string ⟨#[48, 49, 50, 51, 52, 53, 54, 55, 56, 57, 48, 49, 50, 51, 52, 53, 54, 55, 56, 57, 48, 49, 50, 51, 52, 53, 54, 55, 56, 57, 48, 49, 50, 51, 52, 53, 54, 55, 56, 57, 120]⟩) = w10 := ⟨_, rfl⟩
      have hb10 : Below wr.heap.size wr w10 := by rw [← hw10]; exact HB9.out.setCell (p := ⟨g9, 1, none⟩) hg9r _
      have hwd10 : Wds w10 (some ⟨g9, 0, none⟩) c9 (ws.set 1 Cm.longK) := by
        rw [← hw10]
        exact HWd9.out.set 1 Cm.longK (by have := HWL.out; omega) (by decide)
      rw [hw10]
      have hlck := check_b (some ⟨g9, 0, none⟩) c9 (ws.set 1 Cm.longK) w10 hwd10 false (by rw [HKey.out]; rfl)
      rw [List.length_set, HWL.out] at hlck
      have HLC : Hid (Calls Try.prog 9 #[.slice (some ⟨g9, 0, none⟩) n c9] w10 fun e W' => (∃ nm l m f la st wb, e = .returned (.tuple #[.agg #[.string ⟨nm⟩, .int .i64 l, .int .i64 m, .int .i64 f, .int .i64 la, .int .i64 st, .bool wb], .bool false])) ∧ Below w10.heap.size w10 W') := Lib.hid (hlck.mono fun e W' ⟨a1, a2, a3, a4, a5, a6, a7, he, hb⟩ => ⟨⟨a1, a2, a3, a4, a5, a6, a7, he⟩, hb⟩)
      have HLK : Hid (∀ W, Below w10.heap.size w10 W → Calls Try.prog 14 #[.slice (some ⟨g9, 0, none⟩) n c9] W fun e W' => (∃ a c, e = .returned (.slice a 0 c)) ∧ Below w10.heap.size w10 W') := Lib.hid fun W h => by
        have := keys_c (some ⟨g9, 0, none⟩) c9 (ws.set 1 Cm.longK) W (hwd10.later h)
        rw [List.length_set, HWL.out, Cm.keysOf_none HKey.out] at this
        exact this.mono fun e W' ⟨a1, c1, he, _, hb⟩ => ⟨⟨a1, c1, he⟩, h.trans (hb.mono h.size)⟩
      have HB10 := Lib.hid hb10
      clear hw10 hb10 hwd10 hlck q9 q9f c0 c1 c2 c3 c4 c5 c6
      go_wp2_with fail
      refine HLC.out.mono ?_
      rintro e w11 ⟨⟨r1, r2, r3, r4, r5, r6, r7, rfl⟩, hb11⟩
      have HB11 := Lib.hid hb11
      clear hb11
      go_wp2_with fail
      refine (HLK.out _ (HB11.out.alloc HB11.out.size _)).mono ?_
      rintro e w12 ⟨⟨al, cl, rfl⟩, hb12⟩
      have HB12 := Lib.hid (HB10.out.trans (hb12.mono HB10.out.size))
      obtain ⟨c0, c1, c2, c3, c4, c5, c6⟩ := HS.out _ HB12.out
      simp only [Nat.zero_add] at c0 c1 c2 c3 c4 c5 c6
      clear hb12

      have hltc : wc.heap.size < w12.heap.size := Nat.lt_of_lt_of_le hltr HB12.out.size
      have hgM := HG6.out trivial q hq2
      have HGM := Lib.hid hgM
      have hqb : more % 20 ≤ 19 := by omega
      have hqb0 : 0 ≤ more % 20 := by omega
      have HR12 := Lib.hid (HRow.out.later HB12.out)
      clear hgM
      go_wp2
      clear c0 c1 c2 c3 c4 c5 c6
      go_loopw [8, 19] (fun v ii w' => ∃ (i : Nat) (a : Option Addr) (c : Nat), i ≤ 2 * q ∧ ii = .int .i64 i ∧ v = .slice a (n + i) c ∧ Hid (RowW w3 (.slice a (n + i) c) (ws ++ List.replicate i [109]) w')) (fun _ ii _ => 2 * q - (intOf ii).toNat)
      case atStart => exact ⟨0, _, cap, by omega, rfl, rfl, Lib.hid (by simpa using HR12.out)⟩
      case round =>
        obtain ⟨i, a, c, hiq, rfl, rfl, HRi⟩ := hrel
        have hszi := HRi.out.2.size
        have hlenI : (ws ++ List.replicate i [109]).length = n + i := by rw [List.length_append, HWL.out, List.length_replicate]
        have HLi := Lib.hid hlenI
        have hshI : ∀ t ∈ ws ++ List.replicate (i + 1) [109], t.length ≤ 9223372036854775807 := fun t ht => by
          rcases List.mem_append.1 ht with h | h
          · exact HWS.out t h
          · rw [List.eq_of_mem_replicate h]; simp
        have hshJ : ∀ t ∈ ws ++ List.replicate i [109], t.length ≤ 9223372036854775807 := fun t ht => by
          rcases List.mem_append.1 ht with h | h
          · exact HWS.out t h
          · rw [List.eq_of_mem_replicate h]; simp
        have HShI := Lib.hid hshI
        have HShJ := Lib.hid hshJ
        clear hlenI hshI hshJ
        by_cases hlt : i < 2 * q
        · have hltI : (i : Int) < 2 * (more % 20) := by have := HQq.out; omega
          go_wp2_with (at_builtin; refine wpList_append_own _ rfl (.tmp 157) (.tmp 158) 22 rfl w3.heap.size 9 i0 (.string ⟨#[]⟩) 1 16 Try.underlying22 hi hz0 hz1 hz2 rfl (by decide) _ _ _ rfl (HRi.out.1.alloc _) ⟨wr.heap.size, 0, none⟩ 1 1 [.string ⟨#[109]⟩] rfl rfl ?n1 ?n2 ?n3 ?n4 ?n5 ?_)
          case n1 => exact one_news _ _ rfl _ _
          case n2 => intro u hu; simp at hu; subst hu; rfl
          case n3 => rw [HLi.out]; unfold maxLen; omega
          case n4 => rw [HLi.out]; omega
          case n5 => simp; omega
          intro v30 w30 hown30 hgrow30 _
          have hr30 : RowW w3 v30 (ws ++ List.replicate (i + 1) [109]) w30 := by
            rw [show ws.length + i + 1 = (ws ++ List.replicate i [109]).length + 1 by simp] at hown30
            have := HRi.out.append hown30 hgrow30
            rwa [List.append_assoc, ← List.replicate_succ'] at this
          obtain ⟨a30, c30, rfl, -⟩ := hr30.words HShI.out
          have hl30 : (ws ++ List.replicate (i + 1) [109]).length = n + (i + 1) := by rw [List.length_append, HWL.out, List.length_replicate]
          rw [hl30] at hr30
          have HR30 := Lib.hid hr30
          clear hown30 hgrow30 hr30
          rw [hl30]
          clear hl30
          go_wp2
          go_roundw
          case rel => exact ⟨i + 1, _, _, by omega, by go_num, rfl, HR30⟩
          case measure => simp [intOf]; omega
        · obtain rfl : i = 2 * q := by omega
          have hgeI : 2 * (more % 20) ≤ ((2 * q : Nat) : Int) := by have := HQq.out; omega
          have hwd40 := HRi.out.wds HShJ.out
          have hck40 := check_b a c (ws ++ List.replicate (2 * q) [109]) _ hwd40 true HGM.out
          rw [HLi.out] at hck40
          have HC40 := Lib.hid hck40
          clear hwd40 hck40 hlt
          go_wp2_with fail
          refine HC40.out.mono ?_
          rintro e w41 ⟨s1, s2, s3, s4, s5, s6, s7, rfl, hb41⟩
          have HB41 := Lib.hid (HRi.out.2.trans (hb41.mono HRi.out.2.size))
          clear hb41
          go_wp2_with (go_at_call 8; refine (awake_any _).mono ?_; rintro e w42 ⟨rfl, hb42⟩; have HB42 := Lib.hid hb42; clear hb42)
          go_ret
          exact ⟨rfl, HB3.out.trans (((HB41.out.alloc HB41.out.size _).trans (HB42.out.mono (by have := HB41.out.size; first | omega | (simp; omega)))).mono HB3.out.size)⟩

/-- CmdKeys returns true. -/
theorem cmdKeys_walk (which more : Int) (w : World) (hw : 0 ≤ which ∧ which ≤ 255) (hm : 0 ≤ more ∧ more ≤ 255) :
    Calls Try.prog 5 #[.int .u8 which, .int .u8 more] w fun e w' => e = .returned (.bool true) ∧ Below w.heap.size w w' := by
  obtain ⟨j, hj⟩ : ∃ j : Nat, which % 54 = (j : Int) := ⟨(which % 54).toNat, by omega⟩
  obtain ⟨q, hq⟩ : ∃ q : Nat, more % 20 = (q : Int) := ⟨(more % 20).toNat, by omega⟩
  have hmem : Cm.names.getD j [] ∈ Cm.names := by
    have hl := Cm.names_len
    rw [Cm.getD_eq (by omega)]
    exact List.getElem_mem _
  obtain ⟨s, hf, hnm, g1, g2, g3, g4, g5, g6⟩ := Cm.kchk_find hmem
  have hok := Cm.findS_ok hf
  have h01 : s.first = 0 ∨ s.first = 1 := hok.2.2.2.2.2.2.imp (fun h => h.1) (fun h => h.1)
  have hP : s.first = 0 → s.most ≠ 0 := Cm.first_most (List.mem_of_find?_eq_some hf)
  rcases h01 with h | h
  · exact cmdKeys_P which more w hw hm s j q hj (by omega) hq (by omega) hf hnm hok g1 g2 g3 g4 g5 g6 ⟨h, hP h⟩
  · by_cases h0 : s.most = 0
    · exact cmdKeys_M which more w hw hm s j q hj (by omega) hq (by omega) hf hnm hok g1 g2 g3 g4 g5 g6 ⟨h, h0⟩
    · exact cmdKeys_A which more w hw hm s j q hj (by omega) hq (by omega) hf hnm hok g1 g2 g3 g4 g5 g6 ⟨h, h0⟩

end Go.Proofs.Ytibipalncknddaa
