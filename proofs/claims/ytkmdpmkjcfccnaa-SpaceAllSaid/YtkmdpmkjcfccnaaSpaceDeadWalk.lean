/- The contracts of the program's Raw and Get (11.1). The walk of the law SpaceSlots. The walk of the law SpaceDead. -/
import Derived.Test.YtkmdpmkjcfccnaaSpcFind
import Derived.Test.YtkmdpmkjcfccnaaSpcApply
import Derived.Test.YtkmdpmkjcfccnaaDbRaw
import Derived.Test.YtkmdpmkjcfccnaaItAlive
import Derived.Test.YtkmdpmkjcfccnaaSpcSlotsPlain
import Derived.Test.YtkmdpmkjcfccnaaDbKey
import Derived.Test.YtkmdpmkjcfccnaaHeldL
import Derived.Test.YtkmdpmkjcfccnaaItSame
namespace Go.Proofs.Ytkmdpmkjcfccnaa
open Go.RowKit Go.Shelf
attribute [local go_sem] Oper.semAt_some
set_option linter.unusedVariables false
set_option linter.unusedSimpArgs false

theorem results_ct {fn : Func} {t u : Tmp} {T : TypeId} (h : fn.results = #[.cell t T, .tmp u]) {tmps : Array Value} {P : Program} {w : World} {p : Addr} {v : Value} (hp : tmps.getD t undef = .pointer (some p)) (hl : (loadVar T p).run P w = .ok v w) :
    (results fn tmps).run P w = .ok (.tuple #[v, tmps.getD u undef]) w := by
  have hp' : tmps[t]?.getD undef = .pointer (some p) := by simpa using hp
  simp [results, h, hp', hl, asAddr]

theorem lt_neK {a b : List UInt8} (h : a < b) : a ≠ b := fun e => List.lt_irrefl b (e ▸ h)
theorem FoundAt.hit {ps : List Lp} {key : List UInt8} {k : Nat} (h : FoundAt ps key k true) : k < ps.length ∧ rawL ps key = some (ps.getD k Lp.zero).it := by
  obtain ⟨h0, h1, h2, h3⟩ := h
  obtain ⟨h4, h5⟩ := h3.1 rfl
  exact ⟨h4, rawL_hit ps key k h4 (fun j hj => lt_neK (h1 j hj)) h5⟩
theorem FoundAt.miss {ps : List Lp} {key : List UInt8} {k : Nat} (hu : AscL ps) (h : FoundAt ps key k false) : rawL ps key = none := by
  obtain ⟨h0, h1, h2, h3⟩ := h
  refine rawL_miss ps key fun j hj e => ?_
  rcases Nat.lt_or_ge j k with hk | hk
  · exact lt_neK (h1 j hk) e
  · rcases Nat.eq_or_lt_of_le hk with rfl | hk
    · have := h3.2 ⟨hj, e⟩
      cases this
    · have h4 := hu k j hk hj
      rw [e] at h4
      exact h2 k (Nat.le_refl _) (by omega) h4

/-- what Raw, Get tell, as a value. -/
def gotT (o : Option Li) : Value := .tuple #[.agg #[.int .i64 (o.getD Li.zero).k, .string ⟨(o.getD Li.zero).s.toArray⟩, .slice (o.getD Li.zero).aF (o.getD Li.zero).fs.length (o.getD Li.zero).cF, .slice (o.getD Li.zero).aL (o.getD Li.zero).ws.length (o.getD Li.zero).cL, .int .i64 (o.getD Li.zero).x], .bool o.isSome]
def GotOut (o : Option Li) (w : World) (e : Ending) (W : World) : Prop :=
  ∃ o' : Option Li, e = .returned (gotT o') ∧ o'.map Li.i = o.map Li.i ∧ (o'.getD Li.zero).Ok W ∧ Below w.heap.size w W ∧ ∀ q : Option Nat, (∀ g, q = some g → g < w.heap.size) → (o'.getD Li.zero).Far q
theorem Li.zero_far (q : Option Nat) : Li.zero.Far q := ⟨fun h => (h rfl).elim, fun h => (h rfl).elim⟩

set_option maxRecDepth 100000 in
set_option maxHeartbeats 4000000 in
theorem spraw_any (a : Option Addr) (cap : Nat) (ps : List Lp) (key : List UInt8) (w : World) (hP : Prs w a cap ps) (hn : ps.length ≤ 1000000) (hu : AscL ps) (hsm : ∀ p ∈ ps, p.p.Sm) :
    Calls Try.prog 17 #[.slice a ps.length cap, .string ⟨key.toArray⟩] w (GotOut (rawL ps key) w) := by
  obtain ⟨w1, hw1⟩ : ∃ w1, w.alloc (.cells #[.int .i64 0, .string ⟨#[]⟩, .slice none 0 0, .slice none 0 0, .int .i64 0] 31) = w1 := ⟨_, rfl⟩
  have hB1 : Below w.heap.size w w1 := by rw [← hw1]; exact (Below.refl _ w).alloc (Nat.le_refl _) _
  have hx : ItBox w1 w.heap.size 0 [] none 0 0 none 0 0 0 := by rw [← hw1]; exact ItBox.new w 0 [] none 0 0 none 0 0 0
  have hP1 := hP.later hB1
  have HF := Lib.hid (find_any a cap ps key w1 hP1 hn hu)
  have HW := Lib.hid hw1
  have HB := Lib.hid hB1
  have HX := Lib.hid hx
  have HP := Lib.hid hP1
  have HU := Lib.hid hu
  have HSM := Lib.hid hsm
  have hnI : (ps.length : Int) ≤ 1000000 := by omega
  clear hP hw1 hB1 hx hP1 hu hsm
  go_enter Try.func17, Try.ntmps17
  go_upto_region 1 with (fail)
  rw [show w.alloc (.cells #[.int .i64 0, .string ⟨#[]⟩, .slice none 0 0, .slice none 0 0, .int .i64 0] 31) = w1 from HW.out]
  clear HW
  go_wp2_with fail
  refine HF.out.mono ?_
  rintro e w2 ⟨k, b, hf, rfl, hb⟩
  have HB2 := Lib.hid (HB.out.trans (hb.mono HB.out.size))
  have hx2 := HX.out.later hb
  cases b with
  | true =>
    obtain ⟨hk, hr⟩ := hf.hit
    have hP2 := HP.out.later hb
    obtain ⟨bb, off, rfl, hbb, hc⟩ := hP2.get (by omega)
    have hq0 := hc k hk
    have hmem : ps.getD k Lp.zero ∈ ps := by rw [getD_eq hk]; exact List.getElem_mem hk
    have hok := hP2.2 _ hmem
    have hsm := HSM.out _ hmem
    obtain ⟨⟨m, ⟨kk, s, aF, fs, cF, aL, ws, cL, x⟩⟩, hq⟩ : ∃ q, ps.getD k Lp.zero = q := ⟨_, rfl⟩
    rw [hq] at hq0 hok hsm hr
    obtain ⟨q0, q1, q2, q3, q4, q5⟩ := hq0
    simp only at q0 q1 q2 q3 q4 q5
    have HC := Lib.hid (copy_li kk x s aF fs cF aL ws cL w2 hok.2 hsm.2)
    have HX2 := Lib.hid hx2
    have HR := Lib.hid hr
    have k0 : (0 : Int) ≤ (k : Int) := by omega
    have k1 : (k : Int) < (ps.length : Int) := by omega
    clear hf hb hx2 hP2 hc hmem hok hsm hq hr
    go_wp2_with fail
    refine HC.out.mono ?_
    rintro e w3 ⟨bF, dF, bL, dL, rfl, hok3, hb3, hfar3⟩
    have HFR := Lib.hid (hfar3 (some w.heap.size) fun g e => by injection e with e; have := HX2.out.lt; omega)
    have HFQ := Lib.hid (fun q (h : ∀ g, q = some g → g < w.heap.size) => hfar3 q fun g e => Nat.lt_of_lt_of_le (h g e) HB2.out.size)
    have hx3 := HX2.out.later hb3
    obtain ⟨z0, z1, z2, z3, z4⟩ := hx3.at
    obtain ⟨f0, f1, f2, f3, f4⟩ := hx3.free
    have HX3 := Lib.hid hx3
    have HB3 := Lib.hid (HB2.out.trans (hb3.mono HB2.out.size))
    have HOK := Lib.hid hok3
    clear hx3 hb3 hok3 hfar3 q0 q1 q2 q3 q4 q5
    go_wp2_with fail
    have hst := HX3.out.store kk s bF fs.length dF bL ws.length dL x
    have hkp : Below w.heap.size w (stIt w3 w.heap.size kk s bF fs.length dF bL ws.length dL x) := (Keeps.stIt (S := fun k => k < w.heap.size) (Keeps.of_below HB3.out fun k hk _ => hk) (.inl (Nat.le_refl _)) kk s bF fs.length dF bL ws.length dL x).below (Nat.le_refl _) fun k hk => hk
    have hok4 : (⟨kk, s, bF, fs, dF, bL, ws, dL, x⟩ : Li).Ok (stIt w3 w.heap.size kk s bF fs.length dF bL ws.length dL x) :=
      HOK.out.grown HFR.out (fun g _ hne => stIt_far (fun e => hne (by rw [e])) _ _ _ _ _ _ _ _ _) (by simp [stIt])
    show bodyPost _ _ _ .ret _ (stIt w3 w.heap.size kk s bF fs.length dF bL ws.length dL x)
    exact bodyPost_ret (results_ct rfl rfl (loadVarI hst)) rfl ⟨some ⟨kk, s, bF, fs, dF, bL, ws, dL, x⟩, rfl, by rw [HR.out]; rfl, hok4, hkp, HFQ.out⟩
  | false =>
    have hr := hf.miss HU.out
    have HX2 := Lib.hid hx2
    have HR := Lib.hid hr
    obtain ⟨z0, z1, z2, z3, z4⟩ := hx2.at
    obtain ⟨f0, f1, f2, f3, f4⟩ := hx2.free
    clear hf hb hx2 hr
    go_wp2_with fail
    have hst := HX2.out.store 0 [] none 0 0 none 0 0 0
    have hkp : Below w.heap.size w (stIt w2 w.heap.size 0 [] none 0 0 none 0 0 0) := (Keeps.stIt (S := fun k => k < w.heap.size) (Keeps.of_below HB2.out fun k hk _ => hk) (.inl (Nat.le_refl _)) 0 [] none 0 0 none 0 0 0).below (Nat.le_refl _) fun k hk => hk
    show bodyPost _ _ _ .ret _ (stIt w2 w.heap.size 0 [] none 0 0 none 0 0 0)
    exact bodyPost_ret (results_ct rfl rfl (loadVarI hst)) rfl ⟨none, rfl, by rw [HR.out], Li.zero_ok _, hkp, fun q _ => Li.zero_far q⟩

set_option maxRecDepth 100000 in
set_option maxHeartbeats 4000000 in
theorem spget_any (a : Option Addr) (cap : Nat) (ps : List Lp) (key : List UInt8) (now : Int) (w : World) (hP : Prs w a cap ps) (hn : ps.length ≤ 1000000) (hu : AscL ps) (hsm : ∀ p ∈ ps, p.p.Sm) :
    Calls Try.prog 16 #[.slice a ps.length cap, .string ⟨key.toArray⟩, .int .i64 now] w (GotOut (getL ps key now) w) := by
  obtain ⟨w1, hw1⟩ : ∃ w1, w.alloc (.cells #[.int .i64 0, .string ⟨#[]⟩, .slice none 0 0, .slice none 0 0, .int .i64 0] 31) = w1 := ⟨_, rfl⟩
  have hB1 : Below w.heap.size w w1 := by rw [← hw1]; exact (Below.refl _ w).alloc (Nat.le_refl _) _
  have hx : ItBox w1 w.heap.size 0 [] none 0 0 none 0 0 0 := by rw [← hw1]; exact ItBox.new w 0 [] none 0 0 none 0 0 0
  have HF := Lib.hid (spraw_any a cap ps key w1 (hP.later hB1) hn hu hsm)
  have HW := Lib.hid hw1
  have HB := Lib.hid hB1
  have HX := Lib.hid hx
  clear hP hw1 hB1 hx hu hsm hn
  unfold getL
  generalize rawL ps key = o at *
  generalize ps.length = nn at *
  go_enter Try.func16, Try.ntmps16
  go_upto_region 1 with (fail)
  rw [show w.alloc (.cells #[.int .i64 0, .string ⟨#[]⟩, .slice none 0 0, .slice none 0 0, .int .i64 0] 31) = w1 from HW.out]
  clear HW
  go_wp2_with fail
  refine HF.out.mono ?_
  rintro e w2 ⟨o', rfl, ho', hok, hb, hfr⟩
  have HFR := Lib.hid hfr
  have HB2 := Lib.hid (HB.out.trans (hb.mono HB.out.size))
  have HX2 := Lib.hid (HX.out.later hb)
  have HO := Lib.hid ho'
  have HOK := Lib.hid hok
  clear hb ho' hok hfr
  cases o' with
  | none =>
    cases o with
    | some i => have := HO.out; cases this
    | none =>
    unfold gotT
    dsimp only [Option.getD_none, Li.zero, Option.isSome_none, List.length_nil]
    have hx3 := HX2.out.later ((Below.refl _ w2).alloc (Nat.le_refl _) (.cells #[.int .i64 0, .string ⟨#[]⟩, .slice none 0 0, .slice none 0 0, .int .i64 0] 31))
    obtain ⟨z0, z1, z2, z3, z4⟩ := hx3.at
    obtain ⟨f0, f1, f2, f3, f4⟩ := hx3.free
    have hst := hx3.store 0 [] none 0 0 none 0 0 0
    have HST := Lib.hid hst
    have hkp := (Keeps.stIt (S := fun k => k < w.heap.size) (Keeps.of_below (HB2.out.alloc HB2.out.size (.cells #[.int .i64 0, .string ⟨#[]⟩, .slice none 0 0, .slice none 0 0, .int .i64 0] 31)) fun k hk _ => hk) (.inl (Nat.le_refl _)) 0 [] none 0 0 none 0 0 0).below (Nat.le_refl _) fun k hk => hk
    have HKP := Lib.hid hkp
    clear hx3 hst hkp
    go_wp2_with fail
    exact bodyPost_ret (results_ct rfl rfl (loadVarI HST.out)) rfl ⟨none, rfl, rfl, Li.zero_ok _, HKP.out, fun q _ => Li.zero_far q⟩
  | some i' =>
    cases o with
    | none => have := HO.out; cases this
    | some i =>
    obtain ⟨k, s, aF, fs, cF, aL, ws, cL, x⟩ := i'
    have HI : Hid ((⟨k, s, aF, fs, cF, aL, ws, cL, x⟩ : Li).i = i.i) := Lib.hid (Option.some.inj HO.out)
    have HXx : Hid (x = i.x) := Lib.hid (congrArg It.I.exp HI.out)
    have hfar := HOK.out.2
    unfold gotT
    dsimp only [Option.getD_some, Option.isSome_some]
    obtain ⟨w3, hw3⟩ : ∃ w3, w2.alloc (.cells #[.int .i64 k, .string ⟨s.toArray⟩, .slice aF fs.length cF, .slice aL ws.length cL, .int .i64 x] 31) = w3 := ⟨_, rfl⟩
    have hb3 : Below w2.heap.size w2 w3 := by rw [← hw3]; exact (Below.refl _ w2).alloc (Nat.le_refl _) _
    have hy3 : ItBox w3 w2.heap.size k s aF fs.length cF aL ws.length cL x := by rw [← hw3]; exact ItBox.new w2 k s aF fs.length cF aL ws.length cL x
    have HW3 := Lib.hid hw3
    have HB3 := Lib.hid (HB2.out.trans (hb3.mono HB2.out.size))
    have HX3 := Lib.hid (HX2.out.later hb3)
    have HY3 := Lib.hid hy3
    have HOK3 := Lib.hid (HOK.out.later hb3)
    have HA := Lib.hid (fun W => alive_any k s aF fs.length cF aL ws.length cL x now W)
    unfold itv at HA
    obtain ⟨c0, c1, c2, c3, c4⟩ := hy3.at
    obtain ⟨g, hg⟩ : ∃ g, (decide (x = 0) || decide (now < x)) = g := ⟨_, rfl⟩
    rw [hg] at HA
    have HG := Lib.hid hg
    clear hw3 hb3 hy3 hfar hg HO
    go_upto_region 2 with (fail)
    rw [show w2.alloc (.cells #[.int .i64 k, .string ⟨s.toArray⟩, .slice aF fs.length cF, .slice aL ws.length cL, .int .i64 x] 31) = w3 from HW3.out]
    clear HW3
    go_wp2_with fail
    refine (HA.out _).mono ?_
    rintro e w4 ⟨rfl, hb4⟩
    have hx4 := HX3.out.later hb4
    have hy4 := HY3.out.later hb4
    obtain ⟨z0, z1, z2, z3, z4⟩ := hx4.at
    obtain ⟨f0, f1, f2, f3, f4⟩ := hx4.free
    obtain ⟨d0, d1, d2, d3, d4⟩ := hy4.at
    have HB4 := Lib.hid (HB3.out.trans (hb4.mono HB3.out.size))
    have HX4 := Lib.hid hx4
    have HOK4 := Lib.hid (HOK3.out.later hb4)
    clear hx4 hy4 hb4 c0 c1 c2 c3 c4
    cases g with
    | false =>
      have HE : Hid (((some i : Option Li).filter fun i => decide (i.x = 0) || decide (now < i.x)) = none) := Lib.hid (by rw [Option.filter_some, ← HXx.out, HG.out]; rfl)
      have hst := HX4.out.store 0 [] none 0 0 none 0 0 0
      have hkp := (Keeps.stIt (S := fun k => k < w.heap.size) (Keeps.of_below HB4.out fun k hk _ => hk) (.inl (Nat.le_refl _)) 0 [] none 0 0 none 0 0 0).below (Nat.le_refl _) fun k hk => hk
      have HST := Lib.hid hst
      have HKP := Lib.hid hkp
      clear hst hkp
      go_wp2_with fail
      exact bodyPost_ret (results_ct rfl rfl (loadVarI HST.out)) rfl ⟨none, rfl, by rw [HE.out], Li.zero_ok _, HKP.out, fun q _ => Li.zero_far q⟩
    | true =>
      have HE : Hid (((some i : Option Li).filter fun i => decide (i.x = 0) || decide (now < i.x)) = some i) := Lib.hid (by rw [Option.filter_some, ← HXx.out, HG.out]; rfl)
      have hst := HX4.out.store k s aF fs.length cF aL ws.length cL x
      have hkp := (Keeps.stIt (S := fun k => k < w.heap.size) (Keeps.of_below HB4.out fun k hk _ => hk) (.inl (Nat.le_refl _)) k s aF fs.length cF aL ws.length cL x).below (Nat.le_refl _) fun k hk => hk
      have HST := Lib.hid hst
      have HKP := Lib.hid hkp
      clear hst hkp
      go_wp2_with fail
      have hok5 : (⟨k, s, aF, fs, cF, aL, ws, cL, x⟩ : Li).Ok (stIt w4 w.heap.size k s aF fs.length cF aL ws.length cL x) :=
        HOK4.out.grown (HFR.out (some w.heap.size) fun g e => by injection e with e; have := HX.out.lt; omega) (fun g _ hne => stIt_far (fun e => hne (by rw [e])) _ _ _ _ _ _ _ _ _) (by simp [stIt])
      show bodyPost _ _ _ .ret _ (stIt w4 w.heap.size k s aF fs.length cF aL ws.length cL x)
      exact bodyPost_ret (results_ct rfl rfl (loadVarI HST.out)) rfl ⟨some ⟨k, s, aF, fs, cF, aL, ws, cL, x⟩, rfl, by rw [HE.out]; exact congrArg some HI.out, hok5, HKP.out, fun q h => HFR.out q fun g e => Nat.lt_of_lt_of_le (h g e) HB.out.size⟩
end Go.Proofs.Ytkmdpmkjcfccnaa
namespace Go.Proofs.Ytkmdpmkjcfccnaa
open Go.RowKit Go.Shelf
attribute [local go_sem] Oper.semAt_some
set_option linter.unusedVariables false
set_option linter.unusedSimpArgs false

theorem asc_keys {ps : List Lp} (h : AscL ps) : (ps.map Lp.key).Pairwise fun x y => x < y := by
  have := List.pairwise_map.1 h.p
  exact List.pairwise_map.2 this
theorem raw_has {ps : List Lp} {k : List UInt8} (h : k ∈ ps.map Lp.key) : (rawL ps k).isSome = true := by
  obtain ⟨p, hp, rfl⟩ := List.mem_map.1 h
  unfold rawL
  rw [Option.isSome_map]
  exact List.find?_isSome.2 ⟨p, hp, by simp⟩
theorem words_of_row {w W : World} {u : Value} {ws : List (List UInt8)} (h : RowW w u ws W) (hl : ∀ s ∈ ws, s.length ≤ 9223372036854775807) : ∃ a c, u = .slice a ws.length c ∧ Wds W a c ws ∧ Below w.heap.size w W := by
  obtain ⟨a, c, hu, hw, -⟩ := wds_of_row h.1 hl
  exact ⟨a, c, hu, hw, h.2⟩

set_option maxRecDepth 100000 in
set_option maxHeartbeats 8000000 in
theorem spaceSlots_walk (p : Option Addr) (cap : Nat) (ns : List UInt8) (w : World) (hB : Bytes w p ns) (hl : ns.length ≤ cap) (hm : ns.length ≤ maxLen) :
    Calls Try.prog 6 #[.slice p ns.length cap] w fun e w' => e = .returned (.bool true) ∧ Below w.heap.size w w' := by
  have HAW := Lib.hid (fun W => awake_any W)
  by_cases hbig : 160 < ns.length
  · have k1 : (160 : Int) < (ns.length : Int) := by omega
    clear hB
    go_enter Try.func6, Try.ntmps6
    go_wp2_with fail
    refine (HAW.out _).mono ?_
    rintro e w1 ⟨rfl, hb⟩
    have HB1 := Lib.hid hb
    clear hb
    go_wp2_with fail
    go_ret
    exact ⟨rfl, HB1.out⟩
  have k1 : ¬ (160 : Int) < (ns.length : Int) := by omega
  have HMK := Lib.hid (spcMake_any p cap ns w hB hl (by omega))
  clear hB
  go_enter Try.func6, Try.ntmps6
  go_wp2_with fail
  refine HMK.out.mono ?_
  rintro e w1 ⟨a, c, ps, rfl, hp, hn, hq, hb⟩
  have hasc : AscL ps := AscP.l (by rw [hq]; exact numDb_asc ns)
  have hgd : ∀ q ∈ ps, Gd q.p := fun q h => numDb_gd ns q.p (by rw [← hq]; exact List.mem_map_of_mem h)
  have hlen : ps.length ≤ 40 := by have := numDb_len ns; rw [← hq, List.length_map] at this; exact this
  have hks : ∀ k ∈ ps.map Lp.key, ∃ y : Int, 0 ≤ y ∧ y ≤ 255 ∧ k = keyT y := fun k h => by
    obtain ⟨q, hq1, rfl⟩ := List.mem_map.1 h
    exact numDb_key ns q.p (by rw [← hq]; exact List.mem_map_of_mem hq1)
  have HP := Lib.hid hp
  have HB := Lib.hid hb
  have HAS := Lib.hid hasc
  have HSM : Hid (∀ q ∈ ps, q.p.Sm) := Lib.hid fun q h => (hgd q h).sm
  have HKL : Hid (∀ q ∈ ps, q.key.length ≤ 1000000) := Lib.hid fun q h => (hgd q h).sm.1
  have HKA := Lib.hid (asc_keys hasc)
  have HCN := Lib.hid (cnt_sum (ps.map Lp.key) hks)
  have HRH := Lib.hid (fun k (h : k ∈ ps.map Lp.key) => raw_has h)
  have HKK := Lib.hid hks
  have hkl2 : (ps.map Lp.key).length = ps.length := List.length_map ..
  obtain ⟨ks, hks2⟩ : ∃ ks, ps.map Lp.key = ks := ⟨_, rfl⟩
  have HIN := Lib.hid (fun z W (h : Prs W a c ps) => spin_any a c ps z W h (by omega) HKL.out)
  rw [hks2] at HKA HCN HRH HIN HKK hkl2
  clear hp hn hq hb hasc hgd hks hks2
  go_wp2
  go_loopw [4, 5, 6, 7, 8, 9, 10] (fun nv kv _ _ _ _ _ wr => ∃ k : Nat, k ≤ 4 ∧ ∃ N : Nat, nv = .int .i64 (N : Int) ∧ kv = .int .i64 (k : Int) ∧ N = cntU ks k ∧ Hid (Below w.heap.size w wr) ∧ Hid (Below w1.heap.size w1 wr)) (fun _ kv _ _ _ _ _ _ => 4 - (intOf kv).toNat)
  case atStart => exact ⟨0, by omega, 0, rfl, rfl, rfl, HB, Lib.hid (Below.refl _ _)⟩
  case round =>
    obtain ⟨k, hk, N, rfl, rfl, hN, HB2, HB3⟩ := hrel
    have HN := Lib.hid hN
    clear hN
    by_cases hk4 : k < 4
    · have k0 : (0 : Int) ≤ (k : Int) := by omega
      have k2 : (k : Int) < 4 := by omega
      have hwk : IntKind.u8.wrap (k : Int) = (k : Int) := IntWalk.u8_in _ (by omega)
      have HKY := Lib.hid (fun W => key_any (k : Int) W (by omega) (by omega))
      have HSL := Lib.hid (fun W => refSlot_any (keyT (k : Int)) W (by have := keyT_len (k : Int); omega))
      obtain ⟨z, hz⟩ : ∃ z : Int, (slotOf (keyT (k : Int)) : Int) = z := ⟨_, rfl⟩
      have HZ : Hid ((sK k : Int) = z) := Lib.hid (by rw [← hz]; rfl)
      rw [hz] at HSL
      clear hz
      go_wp2_with fail
      refine (HKY.out _).mono ?_
      rintro e w2 ⟨rfl, hb⟩
      have HB4 := Lib.hid (HB3.out.trans (hb.mono HB3.out.size))
      clear hb
      go_wp2_with fail
      refine (HSL.out _).mono ?_
      rintro e w3 ⟨rfl, hb⟩
      have HB5 := Lib.hid (HB4.out.trans (hb.mono HB4.out.size))
      clear hb
      go_wp2_with fail
      refine (HIN.out z _ (HP.out.later HB5.out)).mono ?_
      rintro e w4 ⟨u, rfl, hr⟩
      have hmem : ∀ s ∈ inS z ks, s ∈ ks ∧ (slotOf s : Int) = z := fun s h => inS_mem h
      have hs5 : ∀ s ∈ inS z ks, s.length ≤ 4 := fun s h => by
        obtain ⟨y, -, -, rfl⟩ := HKK.out s (hmem s h).1
        exact keyT_len y
      obtain ⟨a2, c2, rfl, hw2, hb⟩ := words_of_row hr fun s h => by have := hs5 s h; omega
      have HB6 := Lib.hid (HB5.out.trans (hb.mono HB5.out.size))
      have HLN := Lib.hid (show cntU ks (k + 1) = cntU ks k + (inS z ks).length by rw [← HZ.out]; rfl)
      have HLA := Lib.hid (inS_asc (z := z) HKA.out)
      have hLl := inS_len z ks
      have HME := Lib.hid hmem
      have HS5 := Lib.hid hs5
      obtain ⟨L, hL⟩ : ∃ L, inS z ks = L := ⟨_, rfl⟩
      rw [hL] at hw2 HLN HLA hLl HME HS5 ⊢
      have HWL := Lib.hid hw2
      have hNl : N ≤ 1000 := by
        have h1 := HN.out
        have h2 : cntU ks k ≤ cntU ks 4 := by
          have : k = 0 ∨ k = 1 ∨ k = 2 ∨ k = 3 := by omega
          rcases this with rfl | rfl | rfl | rfl <;> simp only [cntU] <;> omega
        rw [HCN.out] at h2
        omega
      have hLI : (L.length : Int) ≤ 40 := by omega
      clear hr hmem hs5 hw2 hb hL
      obtain ⟨wo, rfl⟩ : ∃ wo : World, wo = wr := ⟨_, rfl⟩
      go_wp2_with fail
      go_loopw [8, 9, 10] (fun iv _ _ wr => ∃ i : Nat, i ≤ L.length ∧ iv = .int .i64 (i : Int) ∧ Hid (Below w4.heap.size w4 wr)) (fun iv _ _ _ => L.length - (intOf iv).toNat)
      case atStart => exact ⟨0, Nat.zero_le _, rfl, Lib.hid (Below.refl _ _)⟩
      case round =>
        obtain ⟨i, hi, rfl, HB7⟩ := hrel
        by_cases hiL : i < L.length
        · obtain ⟨b2, o2, rfl, hb20, hc2⟩ := HWL.out.get (by omega)
          have hb2 : b2 < wr.heap.size := Nat.lt_of_lt_of_le hb20 HB7.out.size
          have y0 := (HB7.out.cell (p := ⟨b2, o2 + i, none⟩) hb20).trans (hc2 i hiL)
          have hxm : L.getD i [] ∈ L := by rw [getD_eq hiL]; exact List.getElem_mem hiL
          obtain ⟨hxk, hxz⟩ := HME.out _ hxm
          have hx4 := HS5.out _ hxm
          have HC2 := Lib.hid (fun m (h : m < L.length) => (HB7.out.cell (p := ⟨b2, o2 + m, none⟩) hb20).trans (hc2 m h))
          have HLT := Lib.hid (fun m (h : i = m + 1) => show L.getD m [] < L.getD i [] from by
            subst h
            rw [getD_eq (by omega), getD_eq hiL]
            exact List.pairwise_iff_getElem.1 HLA.out m (m + 1) (by omega) hiL (by omega))
          have HOF := Lib.hid (fun W => refSlot_any (L.getD i []) W (by omega))
          have HRS := Lib.hid (HRH.out _ hxk)
          have HRW := Lib.hid (fun W (h : Prs W a c ps) => spraw_any a c ps (L.getD i []) W h (by omega) HAS.out HSM.out)
          rw [hxz] at HOF
          obtain ⟨x, hx⟩ : ∃ x, L.getD i [] = x := ⟨_, rfl⟩
          rw [hx] at y0 hx4 HLT HOF HRS HRW
          have i0 : (0 : Int) ≤ (i : Int) := by omega
          have i1 : (i : Int) < (L.length : Int) := by omega
          clear hc2 hxm hxk hxz hx
          go_upto_region 14 with (fail)
          go_cut [60] (fun v W => v = .bool false ∧ Below wr.heap.size wr W)
          case first =>
            by_cases h0 : i = 0
            · have HI0 := Lib.hid h0
              clear h0
              have HS0 : Below wr.heap.size wr wr.drew := ((Below.refl _ wr).drew)
              refine wp_region_L (S := fun W => Below wr.heap.size wr W) (f := 23) (by kernel_rfl) ?_
              refine wpAnyL_take (i := 0) (some 38) (v := .slice (some ⟨b2, o2, none⟩) L.length c2) rfl rfl (by kernel_rfl) (by kernel_rfl) (by kernel_rfl) (by kernel_rfl) (fun _ _ _ h => h) (by rfl) (fun W hS => ?_) HS0 ?_
              · go_simp
              try simp only [Act.put, List.setIfInBounds_toArray, List.set_cons_zero, List.set_cons_succ]
              refine wpAnyL_take (i := 1) (some 39) (v := .int .i64 (i : Int)) rfl rfl (by kernel_rfl) (by kernel_rfl) (by kernel_rfl) (by kernel_rfl) (fun _ _ _ h => h) (by rfl) (fun W hS => ?_) HS0 ?_
              · go_simp
              try simp only [Act.put, List.setIfInBounds_toArray, List.set_cons_zero, List.set_cons_succ]
              refine wpAnyL_take (i := 2) (some 40) (v := .pointer (some ⟨b2, o2 + i, none⟩)) rfl rfl (by kernel_rfl) (by kernel_rfl) (by kernel_rfl) (by kernel_rfl) (fun _ _ _ h => h) (by rfl) (fun W hS => ?_) HS0 ?_
              · go_simp
              try simp only [Act.put, List.setIfInBounds_toArray, List.set_cons_zero, List.set_cons_succ]
              refine wpAnyL_take (i := 3) (some 41) (v := .string ⟨x.toArray⟩) rfl rfl (by kernel_rfl) (by kernel_rfl) (by kernel_rfl) (by kernel_rfl) (fun _ _ _ h => h) (by rfl) (fun W hS => ?_) HS0 ?_
              · have m0 := (hS.cell (p := ⟨b2, o2 + i, none⟩) hb2).trans y0
                go_simp
              try simp only [Act.put, List.setIfInBounds_toArray, List.set_cons_zero, List.set_cons_succ]
              refine wpAnyL_take (i := 5) (some 43) (v := .int .i64 z) rfl rfl (by kernel_rfl) (by kernel_rfl) (by kernel_rfl) (by kernel_rfl) (fun _ _ _ h => h) (by rfl) (fun W hS => ?_) HS0 ?_
              · go_simp
              try simp only [Act.put, List.setIfInBounds_toArray, List.set_cons_zero, List.set_cons_succ]
              refine wpAnyL_one (j := 4) (by kernel_rfl) rfl (by rfl) (fun K hK => ?_)
              go_simp
              refine (HOF.out _).mono ?_
              rintro e wc1 ⟨rfl, hb⟩
              have HS1 := HS0.trans (hb.mono HS0.size)
              clear hb
              refine hK _ _ (fun _ => HS1) ?_
              clear hK K
              try simp only [Act.put, List.setIfInBounds_toArray, List.set_cons_zero, List.set_cons_succ]
              refine wpAnyL_take (i := 6) (some 44) (v := .bool false) rfl rfl (by kernel_rfl) (by kernel_rfl) (by kernel_rfl) (by kernel_rfl) (fun _ _ _ h => h) (by rfl) (fun W hS => ?_) HS1 ?_
              · go_simp
              try simp only [Act.put, List.setIfInBounds_toArray, List.set_cons_zero, List.set_cons_succ]
              refine wpAnyL_take (i := 7) (some 45) (v := .bool false) rfl rfl (by kernel_rfl) (by kernel_rfl) (by kernel_rfl) (by kernel_rfl) (fun _ _ _ h => h) (by rfl) (fun W hS => ?_) HS1 ?_
              · go_simp
              try simp only [Act.put, List.setIfInBounds_toArray, List.set_cons_zero, List.set_cons_succ]
              refine wpAnyL_take (i := 8) (some 46) (v := .int .i64 (i : Int)) rfl rfl (by kernel_rfl) (by kernel_rfl) (by kernel_rfl) (by kernel_rfl) (fun _ _ _ h => h) (by rfl) (fun W hS => ?_) HS1 ?_
              · go_simp
              try simp only [Act.put, List.setIfInBounds_toArray, List.set_cons_zero, List.set_cons_succ]
              refine wpAnyL_take (i := 9) (some 47) (v := .bool false) rfl rfl (by kernel_rfl) (by kernel_rfl) (by kernel_rfl) (by kernel_rfl) (fun _ _ _ h => h) (by rfl) (fun W hS => ?_) HS1 ?_
              · go_simp
                first | exact HI0.out | exact Nat.le_of_eq HI0.out
              try simp only [Act.put, List.setIfInBounds_toArray, List.set_cons_zero, List.set_cons_succ]
              refine wpAnyL_take (i := 10) (some 48) (v := .bool false) rfl rfl (by kernel_rfl) (by kernel_rfl) (by kernel_rfl) (by kernel_rfl) (fun _ _ _ h => h) (by rfl) (fun W hS => ?_) HS1 ?_
              · go_simp
              try simp only [Act.put, List.setIfInBounds_toArray, List.set_cons_zero, List.set_cons_succ]
              refine wpAnyL_pass (i := 11) (some 49) rfl rfl (by kernel_rfl) (by kernel_rfl) (by kernel_rfl) (by kernel_rfl) (fun _ _ _ h => h) (by rfl) HS1 ?_
              try simp only [Act.put, List.setIfInBounds_toArray, List.set_cons_zero, List.set_cons_succ]
              refine wpAnyL_pass (i := 12) (some 50) rfl rfl (by kernel_rfl) (by kernel_rfl) (by kernel_rfl) (by kernel_rfl) (fun _ _ _ h => h) (by rfl) HS1 ?_
              try simp only [Act.put, List.setIfInBounds_toArray, List.set_cons_zero, List.set_cons_succ]
              refine wpAnyL_pass (i := 13) (some 51) rfl rfl (by kernel_rfl) (by kernel_rfl) (by kernel_rfl) (by kernel_rfl) (fun _ _ _ h => h) (by rfl) HS1 ?_
              try simp only [Act.put, List.setIfInBounds_toArray, List.set_cons_zero, List.set_cons_succ]
              refine wpAnyL_pass (i := 14) (some 52) rfl rfl (by kernel_rfl) (by kernel_rfl) (by kernel_rfl) (by kernel_rfl) (fun _ _ _ h => h) (by rfl) HS1 ?_
              try simp only [Act.put, List.setIfInBounds_toArray, List.set_cons_zero, List.set_cons_succ]
              refine wpAnyL_pass (i := 15) (some 53) rfl rfl (by kernel_rfl) (by kernel_rfl) (by kernel_rfl) (by kernel_rfl) (fun _ _ _ h => h) (by rfl) HS1 ?_
              try simp only [Act.put, List.setIfInBounds_toArray, List.set_cons_zero, List.set_cons_succ]
              refine wpAnyL_pass (i := 16) (some 54) rfl rfl (by kernel_rfl) (by kernel_rfl) (by kernel_rfl) (by kernel_rfl) (fun _ _ _ h => h) (by rfl) HS1 ?_
              try simp only [Act.put, List.setIfInBounds_toArray, List.set_cons_zero, List.set_cons_succ]
              refine wpAnyL_pass (i := 17) (some 55) rfl rfl (by kernel_rfl) (by kernel_rfl) (by kernel_rfl) (by kernel_rfl) (fun _ _ _ h => h) (by rfl) HS1 ?_
              try simp only [Act.put, List.setIfInBounds_toArray, List.set_cons_zero, List.set_cons_succ]
              refine wpAnyL_pass (i := 18) (some 56) rfl rfl (by kernel_rfl) (by kernel_rfl) (by kernel_rfl) (by kernel_rfl) (fun _ _ _ h => h) (by rfl) HS1 ?_
              try simp only [Act.put, List.setIfInBounds_toArray, List.set_cons_zero, List.set_cons_succ]
              refine wpAnyL_pass (i := 19) (some 57) rfl rfl (by kernel_rfl) (by kernel_rfl) (by kernel_rfl) (by kernel_rfl) (fun _ _ _ h => h) (by rfl) HS1 ?_
              try simp only [Act.put, List.setIfInBounds_toArray, List.set_cons_zero, List.set_cons_succ]
              refine wpAnyL_pass (i := 20) (some 58) rfl rfl (by kernel_rfl) (by kernel_rfl) (by kernel_rfl) (by kernel_rfl) (fun _ _ _ h => h) (by rfl) HS1 ?_
              try simp only [Act.put, List.setIfInBounds_toArray, List.set_cons_zero, List.set_cons_succ]
              refine wpAnyL_take (i := 21) (some 59) (v := .bool false) rfl rfl (by kernel_rfl) (by kernel_rfl) (by kernel_rfl) (by kernel_rfl) (fun _ _ _ h => h) (by rfl) (fun W hS => ?_) HS1 ?_
              · go_simp
              try simp only [Act.put, List.setIfInBounds_toArray, List.set_cons_zero, List.set_cons_succ]
              refine wpAnyL_one (j := 22) (by kernel_rfl) rfl (by rfl) (fun K hK => ?_)
              go_simp
              refine hK _ _ (fun _ => HS1) ?_
              clear hK K
              try simp only [Act.put, List.setIfInBounds_toArray, List.set_cons_zero, List.set_cons_succ]
              refine wpAnyL_done (by kernel_rfl) ?_ _
              go_wp2_with fail
              go_meet
              case rel => exact ⟨rfl, HS1⟩
            · obtain ⟨m, hm⟩ : ∃ m, i = m + 1 := ⟨i - 1, by omega⟩
              have y1 := HC2.out m (by omega)
              have hlt := HLT.out m hm
              obtain ⟨xp, hxp⟩ : ∃ xp, L.getD m [] = xp := ⟨_, rfl⟩
              rw [hxp] at y1 hlt
              have HLT2 := Lib.hid hlt
              have hsub : (i : Int) - 1 = (m : Int) := by omega
              have hwm : IntKind.i64.wrap (m : Int) = (m : Int) := IntWalk.i64_in _ (by omega)
              have m0 : (0 : Int) ≤ (m : Int) := by omega
              have m1 : (m : Int) < (L.length : Int) := by omega
              have HI0 : Hid (0 < i) := Lib.hid (by omega)
              clear hxp hlt hm h0
              have HS0 : Below wr.heap.size wr wr.drew := ((Below.refl _ wr).drew)
              refine wp_region_L (S := fun W => Below wr.heap.size wr W) (f := 23) (by kernel_rfl) ?_
              refine wpAnyL_take (i := 0) (some 38) (v := .slice (some ⟨b2, o2, none⟩) L.length c2) rfl rfl (by kernel_rfl) (by kernel_rfl) (by kernel_rfl) (by kernel_rfl) (fun _ _ _ h => h) (by rfl) (fun W hS => ?_) HS0 ?_
              · go_simp
              try simp only [Act.put, List.setIfInBounds_toArray, List.set_cons_zero, List.set_cons_succ]
              refine wpAnyL_take (i := 1) (some 39) (v := .int .i64 (i : Int)) rfl rfl (by kernel_rfl) (by kernel_rfl) (by kernel_rfl) (by kernel_rfl) (fun _ _ _ h => h) (by rfl) (fun W hS => ?_) HS0 ?_
              · go_simp
              try simp only [Act.put, List.setIfInBounds_toArray, List.set_cons_zero, List.set_cons_succ]
              refine wpAnyL_take (i := 2) (some 40) (v := .pointer (some ⟨b2, o2 + i, none⟩)) rfl rfl (by kernel_rfl) (by kernel_rfl) (by kernel_rfl) (by kernel_rfl) (fun _ _ _ h => h) (by rfl) (fun W hS => ?_) HS0 ?_
              · go_simp
              try simp only [Act.put, List.setIfInBounds_toArray, List.set_cons_zero, List.set_cons_succ]
              refine wpAnyL_take (i := 3) (some 41) (v := .string ⟨x.toArray⟩) rfl rfl (by kernel_rfl) (by kernel_rfl) (by kernel_rfl) (by kernel_rfl) (fun _ _ _ h => h) (by rfl) (fun W hS => ?_) HS0 ?_
              · have m0 := (hS.cell (p := ⟨b2, o2 + i, none⟩) hb2).trans y0
                go_simp
              try simp only [Act.put, List.setIfInBounds_toArray, List.set_cons_zero, List.set_cons_succ]
              refine wpAnyL_take (i := 5) (some 43) (v := .int .i64 z) rfl rfl (by kernel_rfl) (by kernel_rfl) (by kernel_rfl) (by kernel_rfl) (fun _ _ _ h => h) (by rfl) (fun W hS => ?_) HS0 ?_
              · go_simp
              try simp only [Act.put, List.setIfInBounds_toArray, List.set_cons_zero, List.set_cons_succ]
              refine wpAnyL_one (j := 4) (by kernel_rfl) rfl (by rfl) (fun K hK => ?_)
              go_simp
              refine (HOF.out _).mono ?_
              rintro e wc1 ⟨rfl, hb⟩
              have HS1 := HS0.trans (hb.mono HS0.size)
              clear hb
              refine hK _ _ (fun _ => HS1) ?_
              clear hK K
              try simp only [Act.put, List.setIfInBounds_toArray, List.set_cons_zero, List.set_cons_succ]
              refine wpAnyL_take (i := 6) (some 44) (v := .bool false) rfl rfl (by kernel_rfl) (by kernel_rfl) (by kernel_rfl) (by kernel_rfl) (fun _ _ _ h => h) (by rfl) (fun W hS => ?_) HS1 ?_
              · go_simp
              try simp only [Act.put, List.setIfInBounds_toArray, List.set_cons_zero, List.set_cons_succ]
              refine wpAnyL_take (i := 7) (some 45) (v := .bool false) rfl rfl (by kernel_rfl) (by kernel_rfl) (by kernel_rfl) (by kernel_rfl) (fun _ _ _ h => h) (by rfl) (fun W hS => ?_) HS1 ?_
              · go_simp
              try simp only [Act.put, List.setIfInBounds_toArray, List.set_cons_zero, List.set_cons_succ]
              refine wpAnyL_take (i := 8) (some 46) (v := .int .i64 (i : Int)) rfl rfl (by kernel_rfl) (by kernel_rfl) (by kernel_rfl) (by kernel_rfl) (fun _ _ _ h => h) (by rfl) (fun W hS => ?_) HS1 ?_
              · go_simp
              try simp only [Act.put, List.setIfInBounds_toArray, List.set_cons_zero, List.set_cons_succ]
              refine wpAnyL_take (i := 9) (some 47) (v := .bool true) rfl rfl (by kernel_rfl) (by kernel_rfl) (by kernel_rfl) (by kernel_rfl) (fun _ _ _ h => h) (by rfl) (fun W hS => ?_) HS1 ?_
              · go_simp
                exact HI0.out
              try simp only [Act.put, List.setIfInBounds_toArray, List.set_cons_zero, List.set_cons_succ]
              refine wpAnyL_take (i := 10) (some 48) (v := .bool true) rfl rfl (by kernel_rfl) (by kernel_rfl) (by kernel_rfl) (by kernel_rfl) (fun _ _ _ h => h) (by rfl) (fun W hS => ?_) HS1 ?_
              · go_simp
              try simp only [Act.put, List.setIfInBounds_toArray, List.set_cons_zero, List.set_cons_succ]
              refine wpAnyL_take (i := 11) (some 49) (v := .slice (some ⟨b2, o2, none⟩) L.length c2) rfl rfl (by kernel_rfl) (by kernel_rfl) (by kernel_rfl) (by kernel_rfl) (fun _ _ _ h => h) (by rfl) (fun W hS => ?_) HS1 ?_
              · go_simp
              try simp only [Act.put, List.setIfInBounds_toArray, List.set_cons_zero, List.set_cons_succ]
              refine wpAnyL_take (i := 12) (some 50) (v := .int .i64 (i : Int)) rfl rfl (by kernel_rfl) (by kernel_rfl) (by kernel_rfl) (by kernel_rfl) (fun _ _ _ h => h) (by rfl) (fun W hS => ?_) HS1 ?_
              · go_simp
              try simp only [Act.put, List.setIfInBounds_toArray, List.set_cons_zero, List.set_cons_succ]
              refine wpAnyL_take (i := 13) (some 51) (v := .int .i64 (m : Int)) rfl rfl (by kernel_rfl) (by kernel_rfl) (by kernel_rfl) (by kernel_rfl) (fun _ _ _ h => h) (by rfl) (fun W hS => ?_) HS1 ?_
              · go_simp
              try simp only [Act.put, List.setIfInBounds_toArray, List.set_cons_zero, List.set_cons_succ]
              refine wpAnyL_take (i := 14) (some 52) (v := .pointer (some ⟨b2, o2 + m, none⟩)) rfl rfl (by kernel_rfl) (by kernel_rfl) (by kernel_rfl) (by kernel_rfl) (fun _ _ _ h => h) (by rfl) (fun W hS => ?_) HS1 ?_
              · go_simp
              try simp only [Act.put, List.setIfInBounds_toArray, List.set_cons_zero, List.set_cons_succ]
              refine wpAnyL_take (i := 15) (some 53) (v := .string ⟨xp.toArray⟩) rfl rfl (by kernel_rfl) (by kernel_rfl) (by kernel_rfl) (by kernel_rfl) (fun _ _ _ h => h) (by rfl) (fun W hS => ?_) HS1 ?_
              · have m0 := (hS.cell (p := ⟨b2, o2 + m, none⟩) hb2).trans y1
                go_simp
              try simp only [Act.put, List.setIfInBounds_toArray, List.set_cons_zero, List.set_cons_succ]
              refine wpAnyL_take (i := 16) (some 54) (v := .slice (some ⟨b2, o2, none⟩) L.length c2) rfl rfl (by kernel_rfl) (by kernel_rfl) (by kernel_rfl) (by kernel_rfl) (fun _ _ _ h => h) (by rfl) (fun W hS => ?_) HS1 ?_
              · go_simp
              try simp only [Act.put, List.setIfInBounds_toArray, List.set_cons_zero, List.set_cons_succ]
              refine wpAnyL_take (i := 17) (some 55) (v := .int .i64 (i : Int)) rfl rfl (by kernel_rfl) (by kernel_rfl) (by kernel_rfl) (by kernel_rfl) (fun _ _ _ h => h) (by rfl) (fun W hS => ?_) HS1 ?_
              · go_simp
              try simp only [Act.put, List.setIfInBounds_toArray, List.set_cons_zero, List.set_cons_succ]
              refine wpAnyL_take (i := 18) (some 56) (v := .pointer (some ⟨b2, o2 + i, none⟩)) rfl rfl (by kernel_rfl) (by kernel_rfl) (by kernel_rfl) (by kernel_rfl) (fun _ _ _ h => h) (by rfl) (fun W hS => ?_) HS1 ?_
              · go_simp
              try simp only [Act.put, List.setIfInBounds_toArray, List.set_cons_zero, List.set_cons_succ]
              refine wpAnyL_take (i := 19) (some 57) (v := .string ⟨x.toArray⟩) rfl rfl (by kernel_rfl) (by kernel_rfl) (by kernel_rfl) (by kernel_rfl) (fun _ _ _ h => h) (by rfl) (fun W hS => ?_) HS1 ?_
              · have m0 := (hS.cell (p := ⟨b2, o2 + i, none⟩) hb2).trans y0
                go_simp
              try simp only [Act.put, List.setIfInBounds_toArray, List.set_cons_zero, List.set_cons_succ]
              refine wpAnyL_take (i := 20) (some 58) (v := .bool false) rfl rfl (by kernel_rfl) (by kernel_rfl) (by kernel_rfl) (by kernel_rfl) (fun _ _ _ h => h) (by rfl) (fun W hS => ?_) HS1 ?_
              · go_simp
                rw [bytesLess_eq]; exact decide_eq_true HLT2.out
              try simp only [Act.put, List.setIfInBounds_toArray, List.set_cons_zero, List.set_cons_succ]
              refine wpAnyL_take (i := 21) (some 59) (v := .bool false) rfl rfl (by kernel_rfl) (by kernel_rfl) (by kernel_rfl) (by kernel_rfl) (fun _ _ _ h => h) (by rfl) (fun W hS => ?_) HS1 ?_
              · go_simp
              try simp only [Act.put, List.setIfInBounds_toArray, List.set_cons_zero, List.set_cons_succ]
              refine wpAnyL_one (j := 22) (by kernel_rfl) rfl (by rfl) (fun K hK => ?_)
              go_simp
              refine hK _ _ (fun _ => HS1) ?_
              clear hK K
              try simp only [Act.put, List.setIfInBounds_toArray, List.set_cons_zero, List.set_cons_succ]
              refine wpAnyL_done (by kernel_rfl) ?_ _
              go_wp2_with fail
              go_meet
              case rel => exact ⟨rfl, HS1⟩
          case rest =>
            obtain ⟨rfl, hwc⟩ := hcut
            have HB8 := Lib.hid (HB7.out.trans (hwc.mono HB7.out.size))
            have y1 := (hwc.cell (p := ⟨b2, o2 + i, none⟩) hb2).trans y0
            have HP8 := Lib.hid ((HP.out.later HB6.out).later HB8.out)
            clear hwc y0
            go_wp2_with fail
            refine (HRW.out _ HP8.out).mono ?_
            rintro e w9 ⟨o', rfl, ho', -, hb, -⟩
            have HB9 := Lib.hid (HB8.out.trans (hb.mono HB8.out.size))
            cases o' with
            | none =>
              have h1 := HRS.out
              rw [show (rawL ps x).isSome = false by
                have := congrArg Option.isSome ho'
                rw [Option.isSome_map, Option.isSome_map] at this
                rw [← this]
                rfl] at h1
              cases h1
            | some q =>
            clear ho' hb y1
            unfold gotT
            dsimp only [Option.getD_some, Option.isSome_some]
            go_wp2_with fail
            go_roundw
            case rel => exact ⟨i + 1, by omega, by go_num, Lib.hid (HB9.out.alloc HB9.out.size _)⟩
            case measure => simp [intOf]; omega
        · obtain rfl : i = L.length := by omega
          have i1 : ¬ (L.length : Int) < (L.length : Int) := by omega
          go_wp2_with fail
          go_roundw
          case rel => exact ⟨k + 1, by omega, N + L.length, by simp, by go_num, by rw [HLN.out, HN.out], Lib.hid (HB.out.trans ((HB6.out.trans (HB7.out.mono HB6.out.size)).mono HB.out.size)), Lib.hid (HB6.out.trans (HB7.out.mono HB6.out.size))⟩
          case measure => simp [intOf]; omega
    · obtain rfl : k = 4 := by omega
      have hNe : (N : Int) = (ps.length : Int) := by have := HN.out; rw [HCN.out, hkl2] at this; omega
      go_wp2_with fail
      refine (HAW.out _).mono ?_
      rintro e w5 ⟨rfl, hb⟩
      have HB5 := Lib.hid (HB2.out.trans (hb.mono HB2.out.size))
      clear hb
      go_wp2_with fail
      go_ret
      exact ⟨rfl, HB5.out⟩
end Go.Proofs.Ytkmdpmkjcfccnaa
namespace Go.Proofs.Ytkmdpmkjcfccnaa
open Go.RowKit Go.Shelf
attribute [local go_sem] Oper.semAt_some
set_option linter.unusedVariables false
set_option linter.unusedSimpArgs false

theorem rawL_p (ps : List Lp) (k : List UInt8) : (rawL ps k).map Li.i = Db.raw (ps.map Lp.p) k := by
  unfold rawL Db.raw
  rw [List.find?_map, Option.map_map, Option.map_map]
  rfl
theorem hasB_mem (ws : List (List UInt8)) (s : List UInt8) : Mk.hasB ws s = decide (s ∈ ws) := by
  unfold Mk.hasB
  induction ws with
  | nil => simp
  | cons x ws ih =>
    rw [List.any_cons, ih]
    by_cases h : x = s
    · simp [h]
    · have h2 : ¬ s = x := fun e => h e.symm
      simp [h, h2]
theorem raw_mem {ps : List Lp} {k : List UInt8} (h : (rawL ps k).isSome = true) : k ∈ ps.map Lp.key := by
  obtain ⟨q, hq⟩ := Option.isSome_iff_exists.1 h
  unfold rawL at hq
  obtain ⟨p, hp, -⟩ := Option.map_eq_some_iff.1 hq
  have h2 := List.find?_some hp
  simp only [decide_eq_true_eq] at h2
  exact List.mem_map.2 ⟨p, List.mem_of_find?_eq_some hp, h2⟩
theorem inS_has {z : Int} {ks : List (List UInt8)} {k : List UInt8} (h : k ∈ ks) (hz : (slotOf k : Int) = z) : k ∈ inS z ks := by
  unfold inS
  exact List.mem_filter.2 ⟨h, decide_eq_true hz⟩
theorem gone_len {k : List UInt8} {it : It.I} : ∀ {db : List Db.P}, Db.AscP db → (∃ p ∈ db, p.key = k) → (Db.app1 db ⟨k, true, it⟩).length + 1 = db.length := fun {db} h he => by
  have e1 : Db.app1 db ⟨k, true, it⟩ = db.filter (Db.neK k) := by
    unfold Db.app1 Db.foldA
    rw [Db.fold_done]
    simp
  rw [e1]
  clear e1
  induction db with
  | nil => obtain ⟨p, hp, -⟩ := he; cases hp
  | cons p db ih =>
    have h1 := List.pairwise_cons.1 h
    by_cases hk : p.key = k
    · have hall : db.filter (Db.neK k) = db := List.filter_eq_self.2 fun q hq => by
        have := Db.lt_ne (h1.1 q hq)
        rw [hk] at this
        simp [Db.neK, Ne.symm this]
      rw [List.filter_cons, show Db.neK k p = false by simp [Db.neK, hk]]
      simp [hall]
    · obtain ⟨q, hq, hqk⟩ := he
      rcases List.mem_cons.1 hq with rfl | hq
      · exact absurd hqk hk
      · have := ih h1.2 ⟨q, hq, hqk⟩
        rw [List.filter_cons, show Db.neK k p = true by simp [Db.neK, hk]]
        simp; omega

/-- the law's effect. -/
def effD (key : List UInt8) (x : Int) : Le := ⟨key, false, ⟨1, [118], none, [], 0, none, [], 0, x⟩⟩
def effG (key : List UInt8) : Le := ⟨key, true, Li.zero⟩
/-- the space with it. -/
def DeadOut (ns : List UInt8) (key : List UInt8) (x : Int) (w : World) (v : Value) (W : World) : Prop :=
  ∃ a c ps, v = .slice a ps.length c ∧ Prs W a c ps ∧ (a = none → c = 0) ∧ ps.map Lp.p = Db.app (numDb ns) [(effD key x).e] ∧ Below w.heap.size w W

/-- what Get told. -/
def DeadGot (wd : World) (g : Bool) (pv gv : Value) (W : World) : Prop := ∃ B, pv = .pointer (some ⟨B, 0, none⟩) ∧ gv = .bool g ∧ (g = false → ItBox W B 0 [] none 0 0 none 0 0 0) ∧ Below wd.heap.size wd W

set_option maxRecDepth 100000 in
set_option maxHeartbeats 8000000 in
theorem spaceDead_walk (p : Option Addr) (cap : Nat) (ns : List UInt8) (key : List UInt8) (ex now : Int) (w : World) (hB : Bytes w p ns) (hl : ns.length ≤ cap) (hm : ns.length ≤ maxLen) (hk : key.length ≤ 9223372036854775807) (e0 : 0 ≤ ex) (e1 : ex ≤ 255) (n0 : 0 ≤ now) (n1 : now ≤ 255) :
    Calls Try.prog 7 #[.slice p ns.length cap, .string ⟨key.toArray⟩, .int .u8 ex, .int .u8 now] w fun e w' => e = .returned (.bool true) ∧ Below w.heap.size w w' := by
  have HAW := Lib.hid (fun W => awake_any W)
  by_cases hbig : 100 < ns.length
  · have k1 : (100 : Int) < (ns.length : Int) := by omega
    clear hB
    go_enter Try.func7, Try.ntmps7
    go_wp2_with fail
    refine (HAW.out _).mono ?_
    rintro e w1 ⟨rfl, hb⟩
    have HB1 := Lib.hid hb
    clear hb
    go_wp2_with fail
    go_ret
    exact ⟨rfl, HB1.out⟩
  have k1 : ¬ (100 : Int) < (ns.length : Int) := by omega
  by_cases hbk : 40 < key.length
  · have k2 : (40 : Int) < (key.length : Int) := by omega
    clear hB
    go_enter Try.func7, Try.ntmps7
    go_wp2_with fail
    refine (HAW.out _).mono ?_
    rintro e w1 ⟨rfl, hb⟩
    have HB1 := Lib.hid hb
    clear hb
    go_wp2_with fail
    go_ret
    exact ⟨rfl, HB1.out⟩
  have k2 : ¬ (40 : Int) < (key.length : Int) := by omega
  obtain ⟨wA, hwA⟩ : ∃ wA, w.alloc (.cells #[.string ⟨key.toArray⟩, .bool false, .int .i64 1, .string ⟨#[118]⟩, .slice none 0 0, .slice none 0 0, .int .i64 (1 + ex)] 54) = wA := ⟨_, rfl⟩
  have hbA : Below w.heap.size w wA := by rw [← hwA]; exact (Below.refl _ w).alloc (Nat.le_refl _) _
  have hzA : w.heap.size < wA.heap.size := by rw [← hwA]; simp
  obtain ⟨p0, p1, p2, p3, p4, p5, p6⟩ : EAt wA w.heap.size 0 (effD key (1 + ex)) := by rw [← hwA]; exact effW_at w (effD key (1 + ex))
  unfold effD at p0 p1 p2 p3 p4 p5 p6
  simp only [Nat.zero_add] at p0 p1 p2 p3 p4 p5 p6
  have HMK := Lib.hid (fun W (h : Below wA.heap.size wA W) => spcMake_any p cap ns W ((hB.later hbA).later h) hl (by omega))
  have hokD : ∀ W, (effD key (1 + ex)).Ok W := fun W => ⟨by show key.length ≤ _; omega, by simp [effD], fds_nil _, wds_nil _, fun _ => rfl, fun _ => rfl⟩
  have HOD := Lib.hid hokD
  have hsmD : (effD key (1 + ex)).e.Sm := ⟨by show key.length ≤ _; omega, by simp [effD, Le.e, Li.i], by simp [effD, Le.e, Li.i], by simp [effD, Le.e, Li.i], by simp [effD, Le.e, Li.i], by simp [effD, Le.e, Li.i]⟩
  have HSD := Lib.hid hsmD
  have HAP := Lib.hid (show ∀ W a c ps b, Prs W a c ps → (a = none → c = 0) → ps.map Lp.p = numDb ns → b < W.heap.size → EAt W b 0 (effD key (1 + ex)) → Calls Try.prog 21 #[.slice a ps.length c, .slice (some ⟨b, 0, none⟩) 1 1] W (DbOut (Db.app (numDb ns) [(effD key (1 + ex)).e]) W) from fun W a c ps b hp hn hq hb he => by
    have hlen : ps.length ≤ 40 := by have := numDb_len ns; rw [← hq, List.length_map] at this; exact this
    have h1 := sps_any a c ps (some ⟨b, 0, none⟩) 1 [effD key (1 + ex)] W hp (efs_one he hb (HOD.out W)) (by omega) (by simp) hn (AscP.l (by rw [hq]; exact numDb_asc ns)) (fun q h => (numDb_gd ns q.p (by rw [← hq]; exact List.mem_map_of_mem h)).sm) (fun e h => by rw [List.mem_singleton.1 h]; exact HSD.out)
    rw [hq] at h1
    exact h1)
  have HWA := Lib.hid hwA
  have HBA := Lib.hid hbA
  clear hB hwA hbA hokD hsmD
  have hwx : IntKind.i64.wrap (1 + ex) = 1 + ex := IntWalk.i64_in _ (by omega)
  go_enter Try.func7, Try.ntmps7
  go_upto_region 4 with (fail)
  rw [show w.alloc (.cells #[.string ⟨key.toArray⟩, .bool false, .int .i64 1, .string ⟨#[118]⟩, .slice none 0 0, .slice none 0 0, .int .i64 (1 + ex)] 54) = wA from HWA.out]
  clear HWA
  go_cut [10] (fun v W => DeadOut ns key (1 + ex) wA v W)
  case first =>
    have HS0 : Below wA.heap.size wA wA.drew := (Below.refl _ wA).drew
    refine wp_region_L (S := fun W => Below wA.heap.size wA W) (f := 6) (by kernel_rfl) ?_
    refine wpAnyL_take (i := 0) (some 34) (v := .slice p ns.length cap) rfl rfl (by kernel_rfl) (by kernel_rfl) (by kernel_rfl) (by kernel_rfl) (fun _ _ _ h => h) (by rfl) (fun W hS => ?_) HS0 ?_
    · go_simp
    try simp only [Act.put, List.setIfInBounds_toArray, List.set_cons_zero, List.set_cons_succ]
    refine wpAnyL_take (i := 2) (some 36) (v := .agg #[.string ⟨key.toArray⟩, .bool false, .int .i64 1, .string ⟨#[118]⟩, .slice none 0 0, .slice none 0 0, .int .i64 (1 + ex)]) rfl rfl (by kernel_rfl) (by kernel_rfl) (by kernel_rfl) (by kernel_rfl) (fun _ _ _ h => h) (by rfl) (fun W hS => ?_) HS0 ?_
    · have m0 := (hS.cell (p := ⟨w.heap.size, 0, none⟩) hzA).trans p0
      have m1 := (hS.cell (p := ⟨w.heap.size, 1, none⟩) hzA).trans p1
      have m2 := (hS.cell (p := ⟨w.heap.size, 2, none⟩) hzA).trans p2
      have m3 := (hS.cell (p := ⟨w.heap.size, 3, none⟩) hzA).trans p3
      have m4 := (hS.cell (p := ⟨w.heap.size, 4, none⟩) hzA).trans p4
      have m5 := (hS.cell (p := ⟨w.heap.size, 5, none⟩) hzA).trans p5
      have m6 := (hS.cell (p := ⟨w.heap.size, 6, none⟩) hzA).trans p6
      go_simp
    try simp only [Act.put, List.setIfInBounds_toArray, List.set_cons_zero, List.set_cons_succ]
    refine wpAnyL_two (i := 1) (j := 3) (by kernel_rfl) rfl rfl (by rfl) (by rfl) (fun K hK => ?_) (fun K hK => ?_)
    · go_simp
      refine (HMK.out _ HS0).mono ?_
      rintro e w1 ⟨a, c, ps, rfl, hp, hn, hq, hb⟩
      have HS1 := HS0.trans (hb.mono HS0.size)
      have HPQ := Lib.hid (And.intro hp (And.intro hn hq))
      clear hp hn hq hb
      refine hK _ _ (fun _ => HS1) ?_
      clear hK K
      try simp only [Act.put, List.setIfInBounds_toArray, List.set_cons_zero, List.set_cons_succ]
      refine wpAnyL_one (j := 3) (by kernel_rfl) rfl (by rfl) (fun K hK => ?_)
      refine oper_wp_valD (some 37) (v := .slice (some ⟨w1.heap.size, 0, none⟩) 1 1) (w' := effW w1 (effD key (1 + ex))) rfl (by go_simp; rfl) ?_
      have HS2 : Below wA.heap.size wA (effW w1 (effD key (1 + ex))) := HS1.alloc HS1.size _
      refine hK _ _ (fun _ => HS2) ?_
      clear hK K
      try simp only [Act.put, List.setIfInBounds_toArray, List.set_cons_zero, List.set_cons_succ]
      refine wpAnyL_one (j := 4) (by kernel_rfl) rfl (by rfl) (fun K hK => ?_)
      go_simp
      refine (HAP.out _ a c ps w1.heap.size (HPQ.out.1.later (effW_below w1 _)) HPQ.out.2.1 HPQ.out.2.2 (effW_size w1 _) (effW_at w1 _)).mono ?_
      rintro e w3 ⟨a3, c3, ps3, rfl, hp3, hn3, hq3, hb3⟩
      have HS3 := HS2.trans (hb3.mono HS2.size)
      have HO3 := Lib.hid (show DeadOut ns key (1 + ex) wA (.slice a3 ps3.length c3) w3 from ⟨a3, c3, ps3, rfl, hp3, hn3, hq3, HS3⟩)
      clear hp3 hn3 hq3 hb3
      refine hK _ _ (fun _ => HS3) ?_
      clear hK K
      try simp only [Act.put, List.setIfInBounds_toArray, List.set_cons_zero, List.set_cons_succ]
      refine wpAnyL_one (j := 5) (by kernel_rfl) rfl (by rfl) (fun K hK => ?_)
      go_simp
      refine hK _ _ (fun _ => HS3) ?_
      clear hK K
      try simp only [Act.put, List.setIfInBounds_toArray, List.set_cons_zero, List.set_cons_succ]
      refine wpAnyL_done (by kernel_rfl) ?_ _
      go_wp2_with fail
      go_meet
      case rel => exact HO3.out
    · refine oper_wp_valD (some 37) (v := .slice (some ⟨wA.heap.size, 0, none⟩) 1 1) (w' := effW wA.drew (effD key (1 + ex))) rfl (by go_simp; rfl) ?_
      have HS1 : Below wA.heap.size wA (effW wA.drew (effD key (1 + ex))) := HS0.alloc HS0.size _
      have hat : EAt (effW wA.drew (effD key (1 + ex))) wA.heap.size 0 (effD key (1 + ex)) := effW_at wA.drew _
      have hsz : wA.heap.size < (effW wA.drew (effD key (1 + ex))).heap.size := effW_size wA.drew _
      obtain ⟨wB, hwB⟩ : ∃ wB, effW wA.drew (effD key (1 + ex)) = wB := ⟨_, rfl⟩
      rw [hwB] at HS1 hat hsz ⊢
      have HAT := Lib.hid hat
      clear hwB hat
      refine hK _ _ (fun _ => HS1) ?_
      clear hK K
      try simp only [Act.put, List.setIfInBounds_toArray, List.set_cons_zero, List.set_cons_succ]
      refine wpAnyL_one (j := 1) (by kernel_rfl) rfl (by rfl) (fun K hK => ?_)
      go_simp
      refine (HMK.out _ HS1).mono ?_
      rintro e w1 ⟨a, c, ps, rfl, hp, hn, hq, hb⟩
      have HS2 := HS1.trans (hb.mono HS1.size)
      have HAP1 := Lib.hid (HAP.out w1 a c ps wA.heap.size hp hn hq (Nat.lt_of_lt_of_le hsz hb.size) (HAT.out.later hsz hb))
      clear hp hn hq hb
      refine hK _ _ (fun _ => HS2) ?_
      clear hK K
      try simp only [Act.put, List.setIfInBounds_toArray, List.set_cons_zero, List.set_cons_succ]
      refine wpAnyL_one (j := 4) (by kernel_rfl) rfl (by rfl) (fun K hK => ?_)
      go_simp
      refine HAP1.out.mono ?_
      rintro e w3 ⟨a3, c3, ps3, rfl, hp3, hn3, hq3, hb3⟩
      have HS3 := HS2.trans (hb3.mono HS2.size)
      have HO3 := Lib.hid (show DeadOut ns key (1 + ex) wA (.slice a3 ps3.length c3) w3 from ⟨a3, c3, ps3, rfl, hp3, hn3, hq3, HS3⟩)
      clear hp3 hn3 hq3 hb3
      refine hK _ _ (fun _ => HS3) ?_
      clear hK K
      try simp only [Act.put, List.setIfInBounds_toArray, List.set_cons_zero, List.set_cons_succ]
      refine wpAnyL_one (j := 5) (by kernel_rfl) rfl (by rfl) (fun K hK => ?_)
      go_simp
      refine hK _ _ (fun _ => HS3) ?_
      clear hK K
      try simp only [Act.put, List.setIfInBounds_toArray, List.set_cons_zero, List.set_cons_succ]
      refine wpAnyL_done (by kernel_rfl) ?_ _
      go_wp2_with fail
      go_meet
      case rel => exact HO3.out
  case rest =>
    obtain ⟨a, c, ps, rfl, hp, hn, hq, hbc⟩ := hcut
    have hasc0 : Db.AscP (ps.map Lp.p) := by rw [hq]; exact Db.app_asc (numDb_asc ns) _
    have hasc : AscL ps := AscP.l hasc0
    have hsm : ∀ q ∈ ps, q.p.Sm := fun q h => by
      have h1 : q.p ∈ ps.map Lp.p := List.mem_map_of_mem h
      rw [hq] at h1
      rcases app_mem (numDb_asc ns) _ _ h1 with h2 | ⟨e, h2, -, h3⟩
      · exact (numDb_gd ns _ h2).sm
      · rw [h3, List.mem_singleton.1 h2]
        exact ⟨HSD.out.1, HSD.out.2⟩
    have hlen : ps.length ≤ 41 := by
      have h1 := app_len [(effD key (1 + ex)).e] (numDb ns)
      rw [← hq, List.length_map] at h1
      have h2 := numDb_len ns
      simp at h1
      omega
    have hraw : (rawL ps key).map Li.i = some ⟨1, [118], [], [], 1 + ex⟩ := by
      rw [rawL_p, hq]
      show Db.raw (Db.app1 (numDb ns) (effD key (1 + ex)).e) key = _
      rw [Db.raw_app1 (numDb_asc ns)]
      simp [effD, Le.e, Li.i]
    obtain ⟨q, hrq, hqi⟩ := Option.map_eq_some_iff.1 hraw
    have hqx : q.x = 1 + ex := congrArg It.I.exp hqi
    obtain ⟨g, hg⟩ : ∃ g, decide (now ≤ ex) = g := ⟨_, rfl⟩
    have hget : getL ps key now = if g then some q else none := by
      unfold getL
      rw [hrq, Option.filter_some, hqx, ← hg]
      have h1 : (decide (1 + ex = 0) || decide (now < 1 + ex)) = decide (now ≤ ex) := by
        have : ¬ 1 + ex = 0 := by omega
        rw [decide_eq_false this, Bool.false_or]
        congr 1
        apply propext
        omega
      rw [h1]
    have hG := spget_any a c ps key now wc hp (by omega) hasc hsm
    rw [hget] at hG
    have HG := Lib.hid hG
    have HGG := Lib.hid hg
    have HP := Lib.hid hp
    have HN := Lib.hid hn
    have HQ := Lib.hid hq
    have HAS := Lib.hid hasc
    have HSM := Lib.hid hsm
    have HB0 := Lib.hid (HBA.out.trans (hbc.mono HBA.out.size))
    have HRW := Lib.hid (fun W (h : Prs W a c ps) => spraw_any a c ps key W h (by omega) HAS.out HSM.out)
    rw [hrq] at HRW
    have hkm : key ∈ ps.map Lp.key := raw_mem (by rw [hrq]; rfl)
    have HKM := Lib.hid hkm
    have HKL : Hid (∀ q ∈ ps, q.key.length ≤ 1000000) := Lib.hid fun q h => (hsm q h).1
    have HSL := Lib.hid (fun W => refSlot_any key W (by omega))
    have HIN := Lib.hid (fun z W (h : Prs W a c ps) => spin_any a c ps z W h (by omega) HKL.out)
    have hgl := gone_len (it := Li.zero.i) (k := key) hasc0 (by obtain ⟨q2, h1, h2⟩ := List.mem_map.1 hkm; exact ⟨q2.p, List.mem_map_of_mem h1, h2⟩)
    have HGL := Lib.hid hgl
    have HAG := Lib.hid (show ∀ W b, Prs W a c ps → b < W.heap.size → EAt W b 0 (effG key) → Calls Try.prog 21 #[.slice a ps.length c, .slice (some ⟨b, 0, none⟩) 1 1] W (DbOut (Db.app1 (ps.map Lp.p) ⟨key, true, Li.zero.i⟩) W) from fun W b hp hb he =>
      sps_any a c ps (some ⟨b, 0, none⟩) 1 [effG key] W hp (efs_one he hb ⟨by show key.length ≤ _; omega, Li.zero_ok _⟩) (by omega) (by simp) HN.out HAS.out HSM.out (fun e h => by
        rw [List.mem_singleton.1 h]
        exact ⟨by show key.length ≤ _; omega, by simp [effG, Le.e, Li.i, Li.zero], by simp [effG, Le.e, Li.i, Li.zero], by simp [effG, Le.e, Li.i, Li.zero], by simp [effG, Le.e, Li.i, Li.zero], by simp [effG, Le.e, Li.i, Li.zero]⟩))
    have HSI := Lib.hid (fun W => refSame_any 0 0 0 0 [] [] none none 0 0 [] [] none none 0 0 [] [] W (fds_nil W) (fds_nil W) (wds_nil W) (wds_nil W))
    simp only [itv, List.length_nil] at HSI
    clear hp hn hq hasc0 hasc hsm hraw hrq hqi hqx hget hG hg hbc hkm hgl p0 p1 p2 p3 p4 p5 p6
    obtain ⟨wd, rfl⟩ : ∃ wd : World, wd = wc := ⟨_, rfl⟩
    go_upto_region 5 with (fail)
    go_cut [11, 12] (fun pv gv W => DeadGot wd g pv gv W)
    case first =>
      go_wp2_with fail
      refine HG.out.mono ?_
      rintro e w1 ⟨o', rfl, ho', hok, hb, -⟩
      have HO := Lib.hid ho'
      have HB1 := Lib.hid hb
      clear ho' hok hb
      cases g with
      | true =>
        cases o' with
        | none => have := HO.out; cases this
        | some i' =>
        unfold gotT
        dsimp only [Option.getD_some, Option.isSome_some]
        go_wp2_with fail
        go_meet
        case rel => exact ⟨_, rfl, rfl, fun h => (by cases h), HB1.out.alloc HB1.out.size _⟩
      | false =>
        cases o' with
        | some i' => have := HO.out; cases this
        | none =>
        unfold gotT
        dsimp only [Option.getD_none, Li.zero, Option.isSome_none, List.length_nil]
        go_wp2_with fail
        go_meet
        case rel => exact ⟨_, rfl, rfl, fun _ => ItBox.new w1 0 [] none 0 0 none 0 0 0, HB1.out.alloc HB1.out.size _⟩
    case rest =>
      obtain ⟨B, rfl, rfl, hbx, hb1⟩ := hcut
      have HBX := Lib.hid hbx
      have HB1 := Lib.hid (HB0.out.trans (hb1.mono HB0.out.size))
      have HP1 := Lib.hid (HP.out.later hb1)
      clear hbx hb1 HG
      go_wp2_with fail
      refine (HRW.out _ HP1.out).mono ?_
      rintro e w2 ⟨o2, rfl, ho2, -, hb2, -⟩
      cases o2 with
      | none => cases ho2
      | some i2 =>
      unfold gotT
      dsimp only [Option.getD_some, Option.isSome_some]
      have HB2 := Lib.hid (HB1.out.trans (hb2.mono HB1.out.size))
      have HP2 := Lib.hid (HP1.out.later hb2)
      have HBX2 := Lib.hid (fun h => (HBX.out h).later hb2)
      clear ho2 hb2
      obtain ⟨w3, hw3⟩ : ∃ w3, w2.alloc (.cells #[.int .i64 i2.k, .string ⟨i2.s.toArray⟩, .slice i2.aF i2.fs.length i2.cF, .slice i2.aL i2.ws.length i2.cL, .int .i64 i2.x] 31) = w3 := ⟨_, rfl⟩
      have hb3 : Below w2.heap.size w2 w3 := by rw [← hw3]; exact (Below.refl _ w2).alloc (Nat.le_refl _) _
      have HW3 := Lib.hid hw3
      have HB3 := Lib.hid (HB2.out.trans (hb3.mono HB2.out.size))
      have HP3 := Lib.hid (HP2.out.later hb3)
      have HBX3 := Lib.hid (fun h => (HBX2.out h).later hb3)
      clear hw3 hb3
      go_upto_region 7 with (fail)
      rw [show w2.alloc (.cells #[.int .i64 i2.k, .string ⟨i2.s.toArray⟩, .slice i2.aF i2.fs.length i2.cF, .slice i2.aL i2.ws.length i2.cL, .int .i64 i2.x] 31) = w3 from HW3.out]
      clear HW3
      go_wp2_with fail
      refine (HSL.out _).mono ?_
      rintro e w4 ⟨rfl, hb4⟩
      have HB4 := Lib.hid (HB3.out.trans (hb4.mono HB3.out.size))
      have HP4 := Lib.hid (HP3.out.later hb4)
      have HBX4 := Lib.hid (fun h => (HBX3.out h).later hb4)
      clear hb4
      go_wp2_with fail
      refine (HIN.out _ _ HP4.out).mono ?_
      rintro e w5 ⟨u5, rfl, hr5⟩
      obtain ⟨a5, c5, rfl, hw5, hb5⟩ := words_of_row hr5 fun s h => by
        have h1 := (inS_mem h).1
        obtain ⟨q2, h2, rfl⟩ := List.mem_map.1 h1
        have := HKL.out q2 h2
        omega
      have hin5 := inS_has (z := (slotOf key : Int)) HKM.out rfl
      have HH5 := Lib.hid (fun W h => shas_any a5 c5 _ key W (hw5.later (w' := W) h))
      rw [hasB_mem, decide_eq_true hin5] at HH5
      have HB5 := Lib.hid (HB4.out.trans (hb5.mono HB4.out.size))
      have HP5 := Lib.hid (HP4.out.later hb5)
      have HBX5 := Lib.hid (fun h => (HBX4.out h).later hb5)
      obtain ⟨n5, hn5⟩ : ∃ n5, (inS (slotOf key : Int) (ps.map Lp.key)).length = n5 := ⟨_, rfl⟩
      rw [hn5] at HH5 ⊢
      clear hr5 hw5 hb5 hin5 hn5
      obtain ⟨w6, hw6⟩ : ∃ w6, w5.alloc (.cells #[.string ⟨key.toArray⟩, .bool true, .int .i64 0, .string ⟨#[]⟩, .slice none 0 0, .slice none 0 0, .int .i64 0] 54) = w6 := ⟨_, rfl⟩
      have hb6 : Below w5.heap.size w5 w6 := by rw [← hw6]; exact (Below.refl _ w5).alloc (Nat.le_refl _) _
      have hat6 : EAt w6 w5.heap.size 0 (effG key) := by rw [← hw6]; exact effW_at w5 (effG key)
      have hsz6 : w5.heap.size < w6.heap.size := by rw [← hw6]; exact effW_size w5 (effG key)
      have HAG6 := Lib.hid (HAG.out w6 w5.heap.size (HP5.out.later hb6) hsz6 hat6)
      have HW6 := Lib.hid hw6
      have HB6 := Lib.hid (HB5.out.trans (hb6.mono HB5.out.size))
      have HBX6 := Lib.hid (fun h => (HBX5.out h).later hb6)
      have HH6 := Lib.hid (fun W (h : Below w6.heap.size w6 W) => HH5.out W (hb6.trans (h.mono hb6.size)))
      clear hw6 hb6 hat6 hsz6 HAG
      go_wp2_with fail
      rw [show w5.alloc (.cells #[.string ⟨key.toArray⟩, .bool true, .int .i64 0, .string ⟨#[]⟩, .slice none 0 0, .slice none 0 0, .int .i64 0] 54) = w6 from HW6.out]
      refine HAG6.out.mono ?_
      rintro e w7 ⟨a7, c7, ps7, rfl, hp7, hn7, hq7, hb7⟩
      have hasc7 : AscL ps7 := AscP.l (by rw [hq7]; exact Db.app1_asc HAS.out.p _)
      have hsm7 : ∀ q ∈ ps7, q.p.Sm := fun q h => by
        have h1 : q.p ∈ ps7.map Lp.p := List.mem_map_of_mem h
        rw [hq7] at h1
        rcases (Db.mem_app1 HAS.out.p _ _).1 h1 with h2 | h2
        · obtain ⟨q2, h3, h4⟩ := List.mem_map.1 h2.1
          rw [← h4]
          exact HSM.out q2 h3
        · cases h2
      have hlen7 : ps7.length + 1 = ps.length := by
        have := HGL.out
        rw [← hq7, List.length_map, List.length_map] at this
        exact this
      have hraw7 : rawL ps7 key = none := by
        have h1 := rawL_p ps7 key
        rw [hq7, Db.raw_app1 HAS.out.p] at h1
        simpa using h1
      have hR7 := fun W (h : Prs W a7 c7 ps7) => spraw_any a7 c7 ps7 key W h (by omega) hasc7 hsm7
      rw [hraw7] at hR7
      have HR7 := Lib.hid hR7
      have HI7 := Lib.hid (fun z W (h : Prs W a7 c7 ps7) => spin_any a7 c7 ps7 z W h (by omega) fun q h => (hsm7 q h).1)
      have hno7 : key ∉ ps7.map Lp.key := fun h => by
        have := raw_has h
        rw [hraw7] at this
        cases this
      have HNO7 := Lib.hid hno7
      have HKL7 : Hid (∀ q ∈ ps7, q.key.length ≤ 1000000) := Lib.hid fun q h => (hsm7 q h).1
      have HB7 := Lib.hid (HB6.out.trans (hb7.mono HB6.out.size))
      have HP7 := Lib.hid hp7
      have HBX7 := Lib.hid (fun h => (HBX6.out h).later hb7)
      have HH7 := Lib.hid (fun W (h : Below w7.heap.size w7 W) => HH6.out W (hb7.trans (h.mono hb7.size)))
      have hLI : (ps.length : Int) - 1 = (ps7.length : Int) := by omega
      have hL7 : ps7.length ≤ 41 := by omega
      clear hp7 hn7 hq7 hb7 hasc7 hsm7 hlen7 hraw7 hR7 hno7 HW6 HAG6
      go_wp2_with fail
      refine (HR7.out _ HP7.out).mono ?_
      rintro e w8 ⟨o8, rfl, ho8, -, hb8, -⟩
      cases o8 with
      | some i8 => cases ho8
      | none =>
      unfold gotT
      dsimp only [Option.getD_none, Li.zero, Option.isSome_none, List.length_nil]
      obtain ⟨w9, hw9⟩ : ∃ w9, w8.alloc (.cells #[.int .i64 0, .string ⟨#[]⟩, .slice none 0 0, .slice none 0 0, .int .i64 0] 31) = w9 := ⟨_, rfl⟩
      have hb9 : Below w7.heap.size w7 w9 := hb8.trans (by rw [← hw9]; exact ((Below.refl _ w8).alloc (Nat.le_refl _) _).mono hb8.size)
      have HW9 := Lib.hid hw9
      have HB9 := Lib.hid (HB7.out.trans (hb9.mono HB7.out.size))
      have HP9 := Lib.hid (HP7.out.later hb9)
      have HBX9 := Lib.hid (fun h => (HBX7.out h).later hb9)
      have HH9 := Lib.hid (fun W (h : Below w9.heap.size w9 W) => HH7.out W (hb9.trans (h.mono hb9.size)))
      clear ho8 hb8 hw9 hb9
      go_upto_region 10 with (fail)
      rw [show w8.alloc (.cells #[.int .i64 0, .string ⟨#[]⟩, .slice none 0 0, .slice none 0 0, .int .i64 0] 31) = w9 from HW9.out]
      clear HW9
      have HFIN : ∀ W, Below w9.heap.size w9 W → Hid (Below w.heap.size w W) := fun W h => Lib.hid (HB9.out.trans (h.mono HB9.out.size))
      have HGE : Hid (decide (now ≤ ex) = g) := HGG
      cases g with
      | true =>
        have hle : now ≤ ex := of_decide_eq_true HGE.out
        go_wp2_with fail
        refine (HH9.out _ (Below.refl w9.heap.size w9)).mono ?_
        rintro e wa ⟨rfl, rfl⟩
        go_wp2_with fail
        refine (HSL.out _).mono ?_
        rintro e w10 ⟨rfl, hb10⟩
        have HBA := Lib.hid ((Below.refl w9.heap.size w9).trans (hb10.mono ((Below.refl w9.heap.size w9)).size))
        clear hb10
        go_wp2_with fail
        refine (HI7.out _ _ (HP9.out.later HBA.out)).mono ?_
        rintro e w11 ⟨u11, rfl, hr11⟩
        obtain ⟨a11, c11, rfl, hw11, hb11⟩ := words_of_row hr11 fun s h => by
          have h1 := (inS_mem h).1
          obtain ⟨q2, h2, rfl⟩ := List.mem_map.1 h1
          have := HKL7.out q2 h2
          omega
        have hH := shas_any a11 c11 _ key w11 hw11
        rw [hasB_mem, decide_eq_false (fun h => HNO7.out (inS_mem h).1)] at hH
        obtain ⟨n11, hn11⟩ : ∃ n11, (inS (slotOf key : Int) (ps7.map Lp.key)).length = n11 := ⟨_, rfl⟩
        rw [hn11] at hH ⊢
        have HH11 := Lib.hid hH
        have HBB := Lib.hid (HBA.out.trans (hb11.mono HBA.out.size))
        clear hr11 hw11 hb11 hH hn11
        go_wp2_with fail
        refine HH11.out.mono ?_
        rintro e wb ⟨rfl, rfl⟩
        go_wp2_with fail
        refine (HAW.out _).mono ?_
        rintro e wz ⟨rfl, hbz⟩
        have HBZ := HFIN _ (HBB.out.trans (hbz.mono HBB.out.size))
        clear hbz
        go_wp2_with fail
        go_ret
        exact ⟨rfl, HBZ.out⟩
      | false =>
        have hle : ¬ now ≤ ex := of_decide_eq_false HGE.out
        obtain ⟨d0, d1, d2, d3, d4⟩ := (HBX9.out rfl).at
        go_wp2_with fail
        refine (HSI.out _).mono ?_
        rintro e ws ⟨rfl, hbs⟩
        rw [show It.sameB ⟨0, [], [], [], 0⟩ ⟨0, [], [], [], 0⟩ = true from rfl]
        have HBS := Lib.hid hbs
        clear hbs d0 d1 d2 d3 d4
        go_wp2_with fail
        refine (HH9.out _ HBS.out).mono ?_
        rintro e wa ⟨rfl, rfl⟩
        go_wp2_with fail
        refine (HSL.out _).mono ?_
        rintro e w10 ⟨rfl, hb10⟩
        have HBA := Lib.hid (HBS.out.trans (hb10.mono (HBS.out).size))
        clear hb10
        go_wp2_with fail
        refine (HI7.out _ _ (HP9.out.later HBA.out)).mono ?_
        rintro e w11 ⟨u11, rfl, hr11⟩
        obtain ⟨a11, c11, rfl, hw11, hb11⟩ := words_of_row hr11 fun s h => by
          have h1 := (inS_mem h).1
          obtain ⟨q2, h2, rfl⟩ := List.mem_map.1 h1
          have := HKL7.out q2 h2
          omega
        have hH := shas_any a11 c11 _ key w11 hw11
        rw [hasB_mem, decide_eq_false (fun h => HNO7.out (inS_mem h).1)] at hH
        obtain ⟨n11, hn11⟩ : ∃ n11, (inS (slotOf key : Int) (ps7.map Lp.key)).length = n11 := ⟨_, rfl⟩
        rw [hn11] at hH ⊢
        have HH11 := Lib.hid hH
        have HBB := Lib.hid (HBA.out.trans (hb11.mono HBA.out.size))
        clear hr11 hw11 hb11 hH hn11
        go_wp2_with fail
        refine HH11.out.mono ?_
        rintro e wb ⟨rfl, rfl⟩
        go_wp2_with fail
        refine (HAW.out _).mono ?_
        rintro e wz ⟨rfl, hbz⟩
        have HBZ := HFIN _ (HBB.out.trans (hbz.mono HBB.out.size))
        clear hbz
        go_wp2_with fail
        go_ret
        exact ⟨rfl, HBZ.out⟩
end Go.Proofs.Ytkmdpmkjcfccnaa
