/- item.Copy at an item with the places of its lists. The contract of the program's Raw (11.1). -/
import Derived.Test.YtahmddopbmjepaaDoorRC22
import Derived.Test.YtahmddopbmjepaaDoorRC24
import Derived.Test.YtahmddopbmjepaaDoorRC13
import Derived.Test.YtahmddopbmjepaaDoorRC19
namespace Go.Proofs.YtahmddopbmjepaaDoor
open Go.RowKit Go.Shelf
set_option linter.unusedVariables false

theorem copy_li (k x : Int) (s : List UInt8) (aF : Option Addr) (fs : List (List UInt8 × List UInt8)) (cF : Nat) (aL : Option Addr) (ws : List (List UInt8)) (cL : Nat) (w : World) (hok : (⟨k, s, aF, fs, cF, aL, ws, cL, x⟩ : Li).Ok w) (hsm : (⟨k, s, fs, ws, x⟩ : It.I).Sm) :
    Calls Tryd.prog 70 #[.agg #[.int .i64 k, .string ⟨s.toArray⟩, .slice aF fs.length cF, .slice aL ws.length cL, .int .i64 x]] w fun e W => ∃ bF dF bL dL, e = .returned (.agg #[.int .i64 k, .string ⟨s.toArray⟩, .slice bF fs.length dF, .slice bL ws.length dL, .int .i64 x]) ∧ (⟨k, s, bF, fs, dF, bL, ws, dL, x⟩ : Li).Ok W ∧ Below w.heap.size w W ∧ ∀ o : Option Nat, (∀ g, o = some g → g < w.heap.size) → (⟨k, s, bF, fs, dF, bL, ws, dL, x⟩ : Li).Far o :=
  (copy_any k x s aF cF fs aL cL ws w hok.2.1 hok.2.2.1 hsm.2.1 hsm.2.2.1 hsm.1 hsm.2.2.2.1 hsm.2.2.2.2).mono fun e W h => h.li hsm.1 hsm.2.2.2.1 hsm.2.2.2.2

end Go.Proofs.YtahmddopbmjepaaDoor
namespace Go.Proofs.YtahmddopbmjepaaDoor
open Go.RowKit Go.Shelf
attribute [local go_sem] Oper.semAt_some
set_option linter.unusedVariables false
set_option linter.unusedSimpArgs false

theorem results_ct {fn : Func} {t u : Tmp} {T : TypeId} (h : fn.results = #[.cell t T, .tmp u]) {tmps : Array Value} {P : Program} {w : World} {p : Addr} {v : Value} (hp : tmps.getD t undef = .pointer (some p)) (hl : (loadVar T p).run P w = .ok v w) :
    (results fn tmps).run P w = .ok (.tuple #[v, tmps.getD u undef]) w := by
  have hp' : tmps[t]?.getD undef = .pointer (some p) := by simpa using hp
  simp [results, h, hp', hl, asAddr]

theorem lt_neK {a b : List UInt8} (h : a < b) : a ≠ b := fun e => List.lt_irrefl b (e ▸ h)
theorem FoundAt.hit {ps : List Lp} {key : List UInt8} {k : Nat} (h : FoundAt ps key k true) : k < ps.length ∧ rawL ps key = some (ps.getD k Lp.zero).it := by
  obtain ⟨h0, h1, h2, h3⟩ := h
  obtain ⟨h4, h5⟩ := h3.1 rfl
  exact ⟨h4, rawL_hit ps key k h4 (fun j hj => lt_neK (h1 j hj)) h5⟩
theorem FoundAt.miss {ps : List Lp} {key : List UInt8} {k : Nat} (hu : AscL ps) (h : FoundAt ps key k false) : rawL ps key = none := by
  obtain ⟨h0, h1, h2, h3⟩ := h
  refine rawL_miss ps key fun j hj e => ?_
  rcases Nat.lt_or_ge j k with hk | hk
  · exact lt_neK (h1 j hk) e
  · rcases Nat.eq_or_lt_of_le hk with rfl | hk
    · have := h3.2 ⟨hj, e⟩
      cases this
    · have h4 := hu k j hk hj
      rw [e] at h4
      exact h2 k (Nat.le_refl _) (by omega) h4

/-- what Raw, Get tell, as a value. -/
def gotT (o : Option Li) : Value := .tuple #[.agg #[.int .i64 (o.getD Li.zero).k, .string ⟨(o.getD Li.zero).s.toArray⟩, .slice (o.getD Li.zero).aF (o.getD Li.zero).fs.length (o.getD Li.zero).cF, .slice (o.getD Li.zero).aL (o.getD Li.zero).ws.length (o.getD Li.zero).cL, .int .i64 (o.getD Li.zero).x], .bool o.isSome]
def GotOut (o : Option Li) (w : World) (e : Ending) (W : World) : Prop :=
  ∃ o' : Option Li, e = .returned (gotT o') ∧ o'.map Li.i = o.map Li.i ∧ (o'.getD Li.zero).Ok W ∧ Below w.heap.size w W ∧ ∀ q : Option Nat, (∀ g, q = some g → g < w.heap.size) → (o'.getD Li.zero).Far q
theorem Li.zero_far (q : Option Nat) : Li.zero.Far q := ⟨fun h => (h rfl).elim, fun h => (h rfl).elim⟩

set_option maxRecDepth 100000 in
set_option maxHeartbeats 4000000 in
theorem spraw_any (a : Option Addr) (cap : Nat) (ps : List Lp) (key : List UInt8) (w : World) (hP : Prs w a cap ps) (hn : ps.length ≤ 1000000) (hu : AscL ps) (hsm : ∀ p ∈ ps, p.p.Sm) :
    Calls Tryd.prog 60 #[.slice a ps.length cap, .string ⟨key.toArray⟩] w (GotOut (rawL ps key) w) := by
  obtain ⟨w1, hw1⟩ : ∃ w1, w.alloc (.cells #[.int .i64 0, .string ⟨#[]⟩, .slice none 0 0, .slice none 0 0, .int .i64 0] 68) = w1 := ⟨_, rfl⟩
  have hB1 : Below w.heap.size w w1 := by rw [← hw1]; exact (Below.refl _ w).alloc (Nat.le_refl _) _
  have hx : ItBox w1 w.heap.size 0 [] none 0 0 none 0 0 0 := by rw [← hw1]; exact ItBox.new w 0 [] none 0 0 none 0 0 0
  have hP1 := hP.later hB1
  have HF := Lib.hid (find_any a cap ps key w1 hP1 hn hu)
  have HW := Lib.hid hw1
  have HB := Lib.hid hB1
  have HX := Lib.hid hx
  have HP := Lib.hid hP1
  have HU := Lib.hid hu
  have HSM := Lib.hid hsm
  have hnI : (ps.length : Int) ≤ 1000000 := by omega
  clear hP hw1 hB1 hx hP1 hu hsm
  go_enter Tryd.func60, Tryd.ntmps60
  go_upto_region 1 with (fail)
  rw [show w.alloc (.cells #[.int .i64 0, .string ⟨#[]⟩, .slice none 0 0, .slice none 0 0, .int .i64 0] 68) = w1 from HW.out]
  clear HW
  go_wp2_with fail
  refine HF.out.mono ?_
  rintro e w2 ⟨k, b, hf, rfl, hb⟩
  have HB2 := Lib.hid (HB.out.trans (hb.mono HB.out.size))
  have hx2 := HX.out.later hb
  cases b with
  | true =>
    obtain ⟨hk, hr⟩ := hf.hit
    have hP2 := HP.out.later hb
    obtain ⟨bb, off, rfl, hbb, hc⟩ := hP2.get (by omega)
    have hq0 := hc k hk
    have hmem : ps.getD k Lp.zero ∈ ps := by rw [getD_eq hk]; exact List.getElem_mem hk
    have hok := hP2.2 _ hmem
    have hsm := HSM.out _ hmem
    obtain ⟨⟨m, ⟨kk, s, aF, fs, cF, aL, ws, cL, x⟩⟩, hq⟩ : ∃ q, ps.getD k Lp.zero = q := ⟨_, rfl⟩
    rw [hq] at hq0 hok hsm hr
    obtain ⟨q0, q1, q2, q3, q4, q5⟩ := hq0
    simp only at q0 q1 q2 q3 q4 q5
    have HC := Lib.hid (copy_li kk x s aF fs cF aL ws cL w2 hok.2 hsm.2)
    have HX2 := Lib.hid hx2
    have HR := Lib.hid hr
    have k0 : (0 : Int) ≤ (k : Int) := by omega
    have k1 : (k : Int) < (ps.length : Int) := by omega
    clear hf hb hx2 hP2 hc hmem hok hsm hq hr
    go_wp2_with fail
    refine HC.out.mono ?_
    rintro e w3 ⟨bF, dF, bL, dL, rfl, hok3, hb3, hfar3⟩
    have HFR := Lib.hid (hfar3 (some w.heap.size) fun g e => by injection e with e; have := HX2.out.lt; omega)
    have HFQ := Lib.hid (fun q (h : ∀ g, q = some g → g < w.heap.size) => hfar3 q fun g e => Nat.lt_of_lt_of_le (h g e) HB2.out.size)
    have hx3 := HX2.out.later hb3
    obtain ⟨z0, z1, z2, z3, z4⟩ := hx3.at
    obtain ⟨f0, f1, f2, f3, f4⟩ := hx3.free
    have HX3 := Lib.hid hx3
    have HB3 := Lib.hid (HB2.out.trans (hb3.mono HB2.out.size))
    have HOK := Lib.hid hok3
    clear hx3 hb3 hok3 hfar3 q0 q1 q2 q3 q4 q5
    go_wp2_with fail
    have hst := HX3.out.store kk s bF fs.length dF bL ws.length dL x
    have hkp : Below w.heap.size w (stIt w3 w.heap.size kk s bF fs.length dF bL ws.length dL x) := (Keeps.stIt (S := fun k => k < w.heap.size) (Keeps.of_below HB3.out fun k hk _ => hk) (.inl (Nat.le_refl _)) kk s bF fs.length dF bL ws.length dL x).below (Nat.le_refl _) fun k hk => hk
    have hok4 : (⟨kk, s, bF, fs, dF, bL, ws, dL, x⟩ : Li).Ok (stIt w3 w.heap.size kk s bF fs.length dF bL ws.length dL x) :=
      HOK.out.grown HFR.out (fun g _ hne => stIt_far (fun e => hne (by rw [e])) _ _ _ _ _ _ _ _ _) (by simp [stIt])
    show bodyPost _ _ _ .ret _ (stIt w3 w.heap.size kk s bF fs.length dF bL ws.length dL x)
    exact bodyPost_ret (results_ct rfl rfl (loadVarI hst)) rfl ⟨some ⟨kk, s, bF, fs, dF, bL, ws, dL, x⟩, rfl, by rw [HR.out]; rfl, hok4, hkp, HFQ.out⟩
  | false =>
    have hr := hf.miss HU.out
    have HX2 := Lib.hid hx2
    have HR := Lib.hid hr
    obtain ⟨z0, z1, z2, z3, z4⟩ := hx2.at
    obtain ⟨f0, f1, f2, f3, f4⟩ := hx2.free
    clear hf hb hx2 hr
    go_wp2_with fail
    have hst := HX2.out.store 0 [] none 0 0 none 0 0 0
    have hkp : Below w.heap.size w (stIt w2 w.heap.size 0 [] none 0 0 none 0 0 0) := (Keeps.stIt (S := fun k => k < w.heap.size) (Keeps.of_below HB2.out fun k hk _ => hk) (.inl (Nat.le_refl _)) 0 [] none 0 0 none 0 0 0).below (Nat.le_refl _) fun k hk => hk
    show bodyPost _ _ _ .ret _ (stIt w2 w.heap.size 0 [] none 0 0 none 0 0 0)
    exact bodyPost_ret (results_ct rfl rfl (loadVarI hst)) rfl ⟨none, rfl, by rw [HR.out], Li.zero_ok _, hkp, fun q _ => Li.zero_far q⟩

end Go.Proofs.YtahmddopbmjepaaDoor
