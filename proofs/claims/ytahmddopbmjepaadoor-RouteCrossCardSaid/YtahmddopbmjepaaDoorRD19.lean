/- item.Copy at an item with the places of its lists. The contract of the program's Raw (11.1). The contract of the program's atMove: what the owner of a slot that moves replies (14.1, 14.3). -/
import Derived.Test.YtahmddopbmjepaaDoorRD17
import Derived.Test.YtahmddopbmjepaaDoorRD18
import Derived.Test.YtahmddopbmjepaaDoorRD11
import Derived.Test.YtahmddopbmjepaaDoorRD15
import Derived.Test.YtahmddopbmjepaaDoorRD12
import Derived.Test.YtahmddopbmjepaaDoorRD14
import Derived.WalkMore
namespace Go.Proofs.YtahmddopbmjepaaDoor
open Go.RowKit Go.Shelf
set_option linter.unusedVariables false

theorem copy_li (k x : Int) (s : List UInt8) (aF : Option Addr) (fs : List (List UInt8 × List UInt8)) (cF : Nat) (aL : Option Addr) (ws : List (List UInt8)) (cL : Nat) (w : World) (hok : (⟨k, s, aF, fs, cF, aL, ws, cL, x⟩ : Li).Ok w) (hsm : (⟨k, s, fs, ws, x⟩ : It.I).Sm) :
    Calls Tryd.prog 70 #[.agg #[.int .i64 k, .string ⟨s.toArray⟩, .slice aF fs.length cF, .slice aL ws.length cL, .int .i64 x]] w fun e W => ∃ bF dF bL dL, e = .returned (.agg #[.int .i64 k, .string ⟨s.toArray⟩, .slice bF fs.length dF, .slice bL ws.length dL, .int .i64 x]) ∧ (⟨k, s, bF, fs, dF, bL, ws, dL, x⟩ : Li).Ok W ∧ Below w.heap.size w W ∧ ∀ o : Option Nat, (∀ g, o = some g → g < w.heap.size) → (⟨k, s, bF, fs, dF, bL, ws, dL, x⟩ : Li).Far o :=
  (copy_any k x s aF cF fs aL cL ws w hok.2.1 hok.2.2.1 hsm.2.1 hsm.2.2.1 hsm.1 hsm.2.2.2.1 hsm.2.2.2.2).mono fun e W h => h.li hsm.1 hsm.2.2.2.1 hsm.2.2.2.2

end Go.Proofs.YtahmddopbmjepaaDoor
namespace Go.Proofs.YtahmddopbmjepaaDoor
open Go.RowKit Go.Shelf
attribute [local go_sem] Oper.semAt_some
set_option linter.unusedVariables false
set_option linter.unusedSimpArgs false

theorem results_ct {fn : Func} {t u : Tmp} {T : TypeId} (h : fn.results = #[.cell t T, .tmp u]) {tmps : Array Value} {P : Program} {w : World} {p : Addr} {v : Value} (hp : tmps.getD t undef = .pointer (some p)) (hl : (loadVar T p).run P w = .ok v w) :
    (results fn tmps).run P w = .ok (.tuple #[v, tmps.getD u undef]) w := by
  have hp' : tmps[t]?.getD undef = .pointer (some p) := by simpa using hp
  simp [results, h, hp', hl, asAddr]

theorem lt_neK {a b : List UInt8} (h : a < b) : a ≠ b := fun e => List.lt_irrefl b (e ▸ h)
theorem FoundAt.hit {ps : List Lp} {key : List UInt8} {k : Nat} (h : FoundAt ps key k true) : k < ps.length ∧ rawL ps key = some (ps.getD k Lp.zero).it := by
  obtain ⟨h0, h1, h2, h3⟩ := h
  obtain ⟨h4, h5⟩ := h3.1 rfl
  exact ⟨h4, rawL_hit ps key k h4 (fun j hj => lt_neK (h1 j hj)) h5⟩
theorem FoundAt.miss {ps : List Lp} {key : List UInt8} {k : Nat} (hu : AscL ps) (h : FoundAt ps key k false) : rawL ps key = none := by
  obtain ⟨h0, h1, h2, h3⟩ := h
  refine rawL_miss ps key fun j hj e => ?_
  rcases Nat.lt_or_ge j k with hk | hk
  · exact lt_neK (h1 j hk) e
  · rcases Nat.eq_or_lt_of_le hk with rfl | hk
    · have := h3.2 ⟨hj, e⟩
      cases this
    · have h4 := hu k j hk hj
      rw [e] at h4
      exact h2 k (Nat.le_refl _) (by omega) h4

/-- what Raw, Get tell, as a value. -/
def gotT (o : Option Li) : Value := .tuple #[.agg #[.int .i64 (o.getD Li.zero).k, .string ⟨(o.getD Li.zero).s.toArray⟩, .slice (o.getD Li.zero).aF (o.getD Li.zero).fs.length (o.getD Li.zero).cF, .slice (o.getD Li.zero).aL (o.getD Li.zero).ws.length (o.getD Li.zero).cL, .int .i64 (o.getD Li.zero).x], .bool o.isSome]
def GotOut (o : Option Li) (w : World) (e : Ending) (W : World) : Prop :=
  ∃ o' : Option Li, e = .returned (gotT o') ∧ o'.map Li.i = o.map Li.i ∧ (o'.getD Li.zero).Ok W ∧ Below w.heap.size w W ∧ ∀ q : Option Nat, (∀ g, q = some g → g < w.heap.size) → (o'.getD Li.zero).Far q
theorem Li.zero_far (q : Option Nat) : Li.zero.Far q := ⟨fun h => (h rfl).elim, fun h => (h rfl).elim⟩

set_option maxRecDepth 100000 in
set_option maxHeartbeats 4000000 in
theorem spraw_any (a : Option Addr) (cap : Nat) (ps : List Lp) (key : List UInt8) (w : World) (hP : Prs w a cap ps) (hn : ps.length ≤ 1000000) (hu : AscL ps) (hsm : ∀ p ∈ ps, p.p.Sm) :
    Calls Tryd.prog 60 #[.slice a ps.length cap, .string ⟨key.toArray⟩] w (GotOut (rawL ps key) w) := by
  obtain ⟨w1, hw1⟩ : ∃ w1, w.alloc (.cells #[.int .i64 0, .string ⟨#[]⟩, .slice none 0 0, .slice none 0 0, .int .i64 0] 68) = w1 := ⟨_, rfl⟩
  have hB1 : Below w.heap.size w w1 := by rw [← hw1]; exact (Below.refl _ w).alloc (Nat.le_refl _) _
  have hx : ItBox w1 w.heap.size 0 [] none 0 0 none 0 0 0 := by rw [← hw1]; exact ItBox.new w 0 [] none 0 0 none 0 0 0
  have hP1 := hP.later hB1
  have HF := Lib.hid (find_any a cap ps key w1 hP1 hn hu)
  have HW := Lib.hid hw1
  have HB := Lib.hid hB1
  have HX := Lib.hid hx
  have HP := Lib.hid hP1
  have HU := Lib.hid hu
  have HSM := Lib.hid hsm
  have hnI : (ps.length : Int) ≤ 1000000 := by omega
  clear hP hw1 hB1 hx hP1 hu hsm
  go_enter Tryd.func60, Tryd.ntmps60
  go_upto_region 1 with (fail)
  rw [show w.alloc (.cells #[.int .i64 0, .string ⟨#[]⟩, .slice none 0 0, .slice none 0 0, .int .i64 0] 68) = w1 from HW.out]
  clear HW
  go_wp2_with fail
  refine HF.out.mono ?_
  rintro e w2 ⟨k, b, hf, rfl, hb⟩
  have HB2 := Lib.hid (HB.out.trans (hb.mono HB.out.size))
  have hx2 := HX.out.later hb
  cases b with
  | true =>
    obtain ⟨hk, hr⟩ := hf.hit
    have hP2 := HP.out.later hb
    obtain ⟨bb, off, rfl, hbb, hc⟩ := hP2.get (by omega)
    have hq0 := hc k hk
    have hmem : ps.getD k Lp.zero ∈ ps := by rw [getD_eq hk]; exact List.getElem_mem hk
    have hok := hP2.2 _ hmem
    have hsm := HSM.out _ hmem
    obtain ⟨⟨m, ⟨kk, s, aF, fs, cF, aL, ws, cL, x⟩⟩, hq⟩ : ∃ q, ps.getD k Lp.zero = q := ⟨_, rfl⟩
    rw [hq] at hq0 hok hsm hr
    obtain ⟨q0, q1, q2, q3, q4, q5⟩ := hq0
    simp only at q0 q1 q2 q3 q4 q5
    have HC := Lib.hid (copy_li kk x s aF fs cF aL ws cL w2 hok.2 hsm.2)
    have HX2 := Lib.hid hx2
    have HR := Lib.hid hr
    have k0 : (0 : Int) ≤ (k : Int) := by omega
    have k1 : (k : Int) < (ps.length : Int) := by omega
    clear hf hb hx2 hP2 hc hmem hok hsm hq hr
    go_wp2_with fail
    refine HC.out.mono ?_
    rintro e w3 ⟨bF, dF, bL, dL, rfl, hok3, hb3, hfar3⟩
    have HFR := Lib.hid (hfar3 (some w.heap.size) fun g e => by injection e with e; have := HX2.out.lt; omega)
    have HFQ := Lib.hid (fun q (h : ∀ g, q = some g → g < w.heap.size) => hfar3 q fun g e => Nat.lt_of_lt_of_le (h g e) HB2.out.size)
    have hx3 := HX2.out.later hb3
    obtain ⟨z0, z1, z2, z3, z4⟩ := hx3.at
    obtain ⟨f0, f1, f2, f3, f4⟩ := hx3.free
    have HX3 := Lib.hid hx3
    have HB3 := Lib.hid (HB2.out.trans (hb3.mono HB2.out.size))
    have HOK := Lib.hid hok3
    clear hx3 hb3 hok3 hfar3 q0 q1 q2 q3 q4 q5
    go_wp2_with fail
    have hst := HX3.out.store kk s bF fs.length dF bL ws.length dL x
    have hkp : Below w.heap.size w (stIt w3 w.heap.size kk s bF fs.length dF bL ws.length dL x) := (Keeps.stIt (S := fun k => k < w.heap.size) (Keeps.of_below HB3.out fun k hk _ => hk) (.inl (Nat.le_refl _)) kk s bF fs.length dF bL ws.length dL x).below (Nat.le_refl _) fun k hk => hk
    have hok4 : (⟨kk, s, bF, fs, dF, bL, ws, dL, x⟩ : Li).Ok (stIt w3 w.heap.size kk s bF fs.length dF bL ws.length dL x) :=
      HOK.out.grown HFR.out (fun g _ hne => stIt_far (fun e => hne (by rw [e])) _ _ _ _ _ _ _ _ _) (by simp [stIt])
    show bodyPost _ _ _ .ret _ (stIt w3 w.heap.size kk s bF fs.length dF bL ws.length dL x)
    exact bodyPost_ret (results_ct rfl rfl (loadVarI hst)) rfl ⟨some ⟨kk, s, bF, fs, dF, bL, ws, dL, x⟩, rfl, by rw [HR.out]; rfl, hok4, hkp, HFQ.out⟩
  | false =>
    have hr := hf.miss HU.out
    have HX2 := Lib.hid hx2
    have HR := Lib.hid hr
    obtain ⟨z0, z1, z2, z3, z4⟩ := hx2.at
    obtain ⟨f0, f1, f2, f3, f4⟩ := hx2.free
    clear hf hb hx2 hr
    go_wp2_with fail
    have hst := HX2.out.store 0 [] none 0 0 none 0 0 0
    have hkp : Below w.heap.size w (stIt w2 w.heap.size 0 [] none 0 0 none 0 0 0) := (Keeps.stIt (S := fun k => k < w.heap.size) (Keeps.of_below HB2.out fun k hk _ => hk) (.inl (Nat.le_refl _)) 0 [] none 0 0 none 0 0 0).below (Nat.le_refl _) fun k hk => hk
    show bodyPost _ _ _ .ret _ (stIt w2 w.heap.size 0 [] none 0 0 none 0 0 0)
    exact bodyPost_ret (results_ct rfl rfl (loadVarI hst)) rfl ⟨none, rfl, by rw [HR.out], Li.zero_ok _, hkp, fun q _ => Li.zero_far q⟩

end Go.Proofs.YtahmddopbmjepaaDoor
namespace Go.Proofs.YtahmddopbmjepaaDoor
open Go.RowKit Go.Shelf
attribute [local go_sem] Oper.semAt_some
set_option linter.unusedVariables false
set_option linter.unusedSimpArgs false

/-- whether space.Raw finds the key. -/
theorem raw_has (a : Option Addr) (cap : Nat) (ps : List Lp) (key : List UInt8) (w : World) (hP : Prs w a cap ps) (hn : ps.length ≤ 1000000) (hu : AscL ps) (hsm : ∀ p ∈ ps, p.p.Sm) (h : Bool) (hh : (rawL ps key).isSome = h) :
    Calls Tryd.prog 60 #[.slice a ps.length cap, .string ⟨key.toArray⟩] w fun e w' => ∃ k s aF nF cF aL nL cL x, e = .returned (.tuple #[.agg #[.int .i64 k, .string ⟨List.toArray s⟩, .slice aF nF cF, .slice aL nL cL, .int .i64 x], .bool h]) ∧ Below w.heap.size w w' := by
  refine (spraw_any a cap ps key w hP hn hu hsm).mono ?_
  rintro e w' ⟨o', rfl, ho, -, hb, -⟩
  have e1 : o'.isSome = h := by
    rw [← hh]
    have := congrArg Option.isSome ho
    simpa using this
  exact ⟨_, _, _, _, _, _, _, _, _, by unfold gotT; rw [e1], hb⟩

theorem below_stIt {w W : World} {B : Nat} (h : Below w.heap.size w W) (hB : w.heap.size ≤ B) (k : Int) (s : List UInt8) (aF : Option Addr) (nF cF : Nat) (aL : Option Addr) (nL cL : Nat) (x : Int) : Below w.heap.size w (stIt W B k s aF nF cF aL nL cL x) :=
  ((((h.setCell (p := ⟨B, 0, none⟩) hB _).setCell (p := ⟨B, 1, none⟩) hB _).setCell (p := ⟨B, 2, none⟩) hB _).setCell (p := ⟨B, 3, none⟩) hB _).setCell (p := ⟨B, 4, none⟩) hB _

theorem noGoto_of {Q : Exit → Act → World → Prop} {a : Act} {w : World} (h : Q .ret a w) : Exit.noGoto Q .ret a w := h

set_option maxRecDepth 100000 in
set_option maxHeartbeats 8000000 in
theorem atMove_any (a : Option Addr) (cap : Nat) (ps : List Lp) (s t n : Int) (mk : List UInt8) (aK : Option Addr) (cK : Nat) (ks : List (List UInt8)) (w : World) (hE : Env w) (hP : Prs w a cap ps) (hn : ps.length ≤ 1000000) (hu : AscL ps) (hsm : ∀ p ∈ ps, p.p.Sm)
    (hm : Rt.Mv.Ok ⟨s, t, n, mk⟩) (hK : Wds w aK cK ks) (hk0 : 0 < ks.length) (hk1 : ks.length ≤ 1000000) :
    Calls Tryd.prog 51 #[.slice a ps.length cap, .agg #[.int .i64 s, .int .i64 t, .int .i64 n, .string ⟨mk.toArray⟩], .slice aK ks.length cK] w fun e w' => e = .returned (.string ⟨(Rt.movingS (fun k => (rawL ps k).isSome) ⟨s, t, n, mk⟩ ks).toArray⟩) ∧ Below w.heap.size w w' := by
  obtain ⟨w1, hw1⟩ : ∃ w1, w.alloc (.cells #[.int .i64 s, .int .i64 t, .int .i64 n, .string ⟨mk.toArray⟩] 61) = w1 := ⟨_, rfl⟩
  have hx1 : MvBox w1 w.heap.size s t n mk := by rw [← hw1]; exact MvBox.new w s t n mk
  have hB1 : Below w.heap.size w w1 := by rw [← hw1]; exact (Below.refl _ w).alloc (Nat.le_refl _) _
  have hlt1 : w.heap.size < w1.heap.size := by rw [← hw1]; simp
  obtain ⟨bK, oK, rfl, hbK, hcK⟩ := hK.get hk0
  have hcap := hK.1
  have hcapM := hK.2.1
  have hkI : (ks.length : Int) ≤ 1000000 := by omega
  have hkI0 : (0 : Int) < (ks.length : Int) := by omega
  obtain ⟨has, hhas⟩ : ∃ has : List UInt8 → Bool, (fun k => (rawL ps k).isSome) = has := ⟨_, rfl⟩
  rw [hhas]
  have HRAW : Hid (∀ (k : List UInt8) (W : World), Below w.heap.size w W → Calls Tryd.prog 60 #[.slice a ps.length cap, .string ⟨k.toArray⟩] W fun e w' => ∃ k' s aF nF cF aL nL cL x, e = .returned (.tuple #[.agg #[.int .i64 k', .string ⟨List.toArray s⟩, .slice aF nF cF, .slice aL nL cL, .int .i64 x], .bool (has k)]) ∧ Below W.heap.size W w') :=
    Lib.hid fun k W hb => raw_has a cap ps k W (hP.later hb) hn hu hsm (has k) (by rw [← hhas])
  have HRED : Hid (∀ W : World, Below w.heap.size w W → Calls Tryd.prog 29 #[.string ⟨#[65, 83, 75]⟩, .int .i64 s, .int .i64 t] W fun e w' => e = .returned (.string ⟨(Rt.redir Rt.ask s t).toArray⟩) ∧ Below W.heap.size W w') :=
    Lib.hid fun W hb => redir_any Rt.ask s t W (hE.later hb) (by decide) hm.1.1 hm.1.2 hm.2.1.1 hm.2.1.2
  have hn0 := hm.2.2.1
  have hlm := hm.2.2.2
  simp only at hn0 hlm
  have HCK := Lib.hid hcK
  have HX1 := Lib.hid hx1
  have HB1 := Lib.hid hB1
  have c0 := (hB1.cell (p := ⟨bK, oK + 0, none⟩) hbK).trans (hcK 0 hk0)
  rw [Nat.add_zero] at c0
  obtain ⟨k0, hkk0⟩ : ∃ k0, ks.getD 0 [] = k0 := ⟨_, rfl⟩
  obtain ⟨hv, hhv⟩ : ∃ hv, has k0 = hv := ⟨_, rfl⟩
  obtain ⟨R, hR⟩ : ∃ R, Rt.movingS has ⟨s, t, n, mk⟩ ks = R := ⟨_, rfl⟩
  rw [hR]
  have HEARLY : Hid (∀ j, j < ks.length → (Rt.locked ⟨s, t, n, mk⟩ (ks.getD j []) = true ∨ has (ks.getD j []) ≠ hv) → R = Rt.again) := Lib.hid fun j hj h => by rw [← hR]; exact Rt.moving_early hj (by rw [hkk0, hhv]; exact h)
  have HSAME : Hid ((∀ j, j < ks.length → Rt.locked ⟨s, t, n, mk⟩ (ks.getD j []) = false ∧ has (ks.getD j []) = hv) → R = if hv then [] else Rt.redir Rt.ask s t) := Lib.hid fun h => by
    have := Rt.moving_same (m := ⟨s, t, n, mk⟩) (has := has) hk0 (by rw [hkk0, hhv]; exact h)
    rw [hkk0, hhv, hR] at this
    exact this
  rw [hkk0] at c0
  have HR0 := HRAW.out k0 w1 HB1.out
  rw [hhv] at HR0
  have HR1 := Lib.hid HR0
  clear hx1 hB1 hcK hK hP hsm hu hm hE hR hhas hkk0 hhv HR0
  go_enter Tryd.func51, Tryd.ntmps51
  go_upto_region 1 with (fail)
  clear hw1
  go_step3
  go_wp2_with fail
  refine (HR1.out).mono ?_
  rintro e w2 ⟨k', s', aF, nF, cF, aL, nL, cL, x', rfl, hb⟩
  have HB2 := Lib.hid (HB1.out.trans (hb.mono HB1.out.size))
  obtain ⟨w3, hw3⟩ : ∃ w3, w2.alloc (.cells #[.int .i64 0, .string ⟨#[]⟩, .slice none 0 0, .slice none 0 0, .int .i64 0] 68) = w3 := ⟨_, rfl⟩
  have hx : ItBox w3 w2.heap.size 0 [] none 0 0 none 0 0 0 := by rw [← hw3]; exact ItBox.new w2 0 [] none 0 0 none 0 0 0
  have hb3 : Below w2.heap.size w2 w3 := by rw [← hw3]; exact (Below.refl _ w2).alloc (Nat.le_refl _) _
  have HB3 := Lib.hid (HB2.out.trans (hb3.mono HB2.out.size))
  obtain ⟨z0, z1, z2, z3, z4⟩ := hx.at
  obtain ⟨f0, f1, f2, f3, f4⟩ := hx.free
  have HB4 := Lib.hid (below_stIt (B := w2.heap.size) HB3.out HB2.out.size k' s' aF nF cF aL nL cL x')
  have HB41 := Lib.hid (below_stIt (B := w2.heap.size) ((hb.trans (hb3.mono hb.size))) hb.size k' s' aF nF cF aL nL cL x')
  unfold stIt at HB4 HB41
  clear hb hx hb3
  go_wp2_with fail
  clear hw3 z0 z1 z2 z3 z4 f0 f1 f2 f3 f4
  go_step3
  go_wp2_with fail
  go_loopw [9, 24] (fun e i wr => ∃ k : Nat, k ≤ ks.length ∧ e = .bool false ∧ i = .int .i64 k ∧ Hid (∀ j, j < k → Rt.locked ⟨s, t, n, mk⟩ (ks.getD j []) = false ∧ has (ks.getD j []) = hv) ∧ Hid (Below w1.heap.size w1 wr)) (fun _ i _ => ks.length - (intOf i).toNat)
  case atStart => exact ⟨0, by omega, rfl, rfl, Lib.hid fun j h => by omega, HB41⟩
  case round =>
    obtain ⟨k, hk, rfl, rfl, HS, HBr⟩ := hrel
    have hzr := HBr.out.size
    have HBw := Lib.hid (HB1.out.trans (HBr.out.mono HB1.out.size))
    have hmv := (HX1.out.later HBr.out hlt1).at
    obtain ⟨m0, m1, m2, m3⟩ := hmv
    by_cases hlt : k < ks.length
    · have ck := (HBw.out.cell (p := ⟨bK, oK + k, none⟩) hbK).trans (HCK.out k hlt)
      have q0 : (0 : Int) ≤ (k : Int) := by omega
      have q1 : (k : Int) < (ks.length : Int) := by omega
      obtain ⟨y, hy⟩ : ∃ y, ks.getD k [] = y := ⟨_, rfl⟩
      obtain ⟨hq, hhq⟩ : ∃ hq, has y = hq := ⟨_, rfl⟩
      have HRK := HRAW.out y wr HBw.out
      have HEK : Hid ((0 < n ∧ y = mk) ∨ hq ≠ hv → R = Rt.again) := Lib.hid fun h => HEARLY.out k hlt (by
        rw [hy, hhq]
        rcases h with h | h
        · exact .inl (Rt.locked_iff.2 h)
        · exact .inr h)
      have HNX : Hid (¬ (0 < n ∧ y = mk) → hq = hv → ∀ j, j < k + 1 → Rt.locked ⟨s, t, n, mk⟩ (ks.getD j []) = false ∧ has (ks.getD j []) = hv) := Lib.hid fun h1 h2 j hj => by
        rcases Nat.lt_or_ge j k with h | h
        · exact HS.out j h
        · obtain rfl : j = k := by omega
          rw [hy, hhq]
          refine ⟨?_, h2⟩
          rw [← Bool.not_eq_true]
          exact fun e => h1 (Rt.locked_iff.1 e)
      rw [hhq] at HRK
      rw [hy] at ck
      have HRL := Lib.hid HRK
      clear HRK hy hhq
      go_wp2_with fail
      refine (HRL.out).mono ?_
      rintro e w5 ⟨k', s', aF, nF, cF, aL, nL, cL, x', rfl, hb⟩
      obtain ⟨w6, hw6⟩ : ∃ w6, w5.alloc (.cells #[.int .i64 0, .string ⟨#[]⟩, .slice none 0 0, .slice none 0 0, .int .i64 0] 68) = w6 := ⟨_, rfl⟩
      have hx : ItBox w6 w5.heap.size 0 [] none 0 0 none 0 0 0 := by rw [← hw6]; exact ItBox.new w5 0 [] none 0 0 none 0 0 0
      have hb6 : Below w5.heap.size w5 w6 := by rw [← hw6]; exact (Below.refl _ w5).alloc (Nat.le_refl _) _
      have hbr6 : Below wr.heap.size wr w6 := hb.trans (hb6.mono hb.size)
      obtain ⟨z0, z1, z2, z3, z4⟩ := hx.at
      obtain ⟨f0, f1, f2, f3, f4⟩ := hx.free
      have hbr7 := below_stIt (B := w5.heap.size) hbr6 hb.size k' s' aF nF cF aL nL cL x'
      obtain ⟨w7, hw7⟩ : ∃ w7, stIt w6 w5.heap.size k' s' aF nF cF aL nL cL x' = w7 := ⟨_, rfl⟩
      have hw7' := hw7
      unfold stIt at hw7'
      rw [hw7] at hbr7
      have HB7 := Lib.hid (HBr.out.trans (hbr7.mono HBr.out.size))
      have hmv := (HX1.out.later HB7.out hlt1).at
      obtain ⟨n0, n1, n2, n3⟩ := hmv
      clear hb hx hb6 hbr6 hbr7 hw7 m0 m1 m2 m3 ck
      by_cases h1 : 0 < n
      · by_cases h2 : y = mk
        · have HZ := Lib.hid (HEK.out (.inl ⟨h1, h2⟩))
          have c2 : (y == mk) = true := by rw [beq_iff_eq]; exact h2
          clear h2
          go_wp2_with fail
          try refine noGoto_of ?_
          go_ret
          exact ⟨by rw [HZ.out]; rfl, (HB1.out.trans (HB7.out.mono HB1.out.size))⟩
        · have c2 : (y == mk) = false := by rw [beq_eq_false_iff_ne]; exact h2
          by_cases h3 : hq = hv
          · have HZ := Lib.hid (HNX.out (fun h => h2 h.2) h3)
            have c3 : (hq != hv) = false := by rw [h3]; cases hv <;> rfl
            have c4 : (hq == hv) = true := by rw [h3]; cases hv <;> rfl
            clear h2 h3
            go_wp2_with fail
            go_roundw
            case rel => exact ⟨k + 1, by omega, rfl, by go_num, HZ, HB7⟩
            case measure => simp [intOf]; omega
          · have HZ := Lib.hid (HEK.out (.inr h3))
            have c3 : (hq != hv) = true := by rw [bne_iff_ne]; exact h3
            have c4 : (hq == hv) = false := by rw [beq_eq_false_iff_ne]; exact h3
            clear h2 h3
            go_wp2_with fail
            try refine noGoto_of ?_
            go_ret
            exact ⟨by rw [HZ.out]; rfl, (HB1.out.trans (HB7.out.mono HB1.out.size))⟩
      · by_cases h3 : hq = hv
        · have HZ := Lib.hid (HNX.out (fun h => h1 h.1) h3)
          have c3 : (hq != hv) = false := by rw [h3]; cases hv <;> rfl
          have c4 : (hq == hv) = true := by rw [h3]; cases hv <;> rfl
          clear h3
          go_wp2_with fail
          go_roundw
          case rel => exact ⟨k + 1, by omega, rfl, by go_num, HZ, HB7⟩
          case measure => simp [intOf]; omega
        · have HZ := Lib.hid (HEK.out (.inr h3))
          have c3 : (hq != hv) = true := by rw [bne_iff_ne]; exact h3
          have c4 : (hq == hv) = false := by rw [beq_eq_false_iff_ne]; exact h3
          clear h3
          go_wp2_with fail
          try refine noGoto_of ?_
          go_ret
          exact ⟨by rw [HZ.out]; rfl, (HB1.out.trans (HB7.out.mono HB1.out.size))⟩
    · have HZ := Lib.hid (HSAME.out (fun j hj => HS.out j (by omega)))
      have q1 : ¬ (k : Int) < (ks.length : Int) := by omega
      cases hv with
      | true =>
        go_wp2_with fail
        try refine noGoto_of ?_
        go_ret
        exact ⟨by rw [HZ.out]; rfl, HBw.out⟩
      | false =>
        go_wp2_with fail
        refine (HRED.out _ HBw.out).mono ?_
        rintro e w8 ⟨rfl, hb⟩
        have HB8 := Lib.hid (HBw.out.trans (hb.mono HBw.out.size))
        clear hb
        go_wp2_with fail
        try refine noGoto_of ?_
        go_ret
        exact ⟨by rw [HZ.out]; rfl, HB8.out⟩
end Go.Proofs.YtahmddopbmjepaaDoor
