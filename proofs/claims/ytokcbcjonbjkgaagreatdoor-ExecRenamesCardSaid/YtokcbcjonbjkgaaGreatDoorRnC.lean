/- Exec of the program; give, set, get, ttl, rename; Exec of single commands. -/
import Derived.Test.YtokcbcjonbjkgaaGreatDoorEcFind
import Derived.Test.YtokcbcjonbjkgaaGreatDoorEcBegin
import Derived.Test.YtokcbcjonbjkgaaGreatDoorRnF
import Derived.Test.YtokcbcjonbjkgaaGreatDoorEcEffects
import Derived.Test.YtokcbcjonbjkgaaGreatDoorItMay
import Derived.Test.YtokcbcjonbjkgaaGreatDoorItBoxes
import Derived.Test.YtokcbcjonbjkgaaGreatDoorHeldL
import Derived.WideLaws
namespace Go.Proofs.YtokcbcjonbjkgaaGreatDoor
open Go.RowKit Go.Shelf
attribute [local go_sem] Oper.semAt_some
set_option linter.unusedVariables false
set_option linter.unusedSimpArgs false

/-- what Exec tells. -/
def ExecOut (r : Rp.R × List Db.E) (w : World) (e : Ending) (W : World) : Prop :=
  ∃ v a cap es, e = .returned (.tuple #[v, .slice a es.length cap]) ∧ Rep (fun b => w.heap.size ≤ b) W r.1 v ∧ Efs W a cap es ∧ (a = none → cap = 0) ∧ es.map Le.e = r.2 ∧ (∀ e ∈ es, ∀ g, g < w.heap.size → e.it.Far (some g)) ∧ Below w.heap.size w W
theorem RowX.keepB {w W W' : World} {u : Value} {es : List Le} (h : RowX w u es W) {B : Nat} (hB : B < w.heap.size) (hk : Keeps (fun k => k ≠ B) W W') (hf : ∀ e ∈ es, e.it.Far (some B)) : ∃ a cap, u = .slice a es.length cap ∧ Efs W' a cap es ∧ (a = Option.none → cap = 0) := by
  have hlt := h.1.lt
  obtain ⟨a, cap, rfl, he, hn⟩ := h.efs
  refine ⟨a, cap, rfl, ⟨he.1.keep hk.size fun b off e hlb => hk.block b hlb ?_, fun p hp => ⟨(he.2 p hp).1, (he.2 p hp).2.keptO (O := fun k => k = B) (fun g hg => hg ▸ hf p hp) hk⟩⟩, hn⟩
  intro e2
  subst e
  by_cases h0 : off = 0
  · subst h0
    have := (hlt b rfl).1
    omega
  · obtain ⟨_, ho⟩ := h.1
    rcases ho with ⟨h1, -⟩ | ⟨g, cp, cur, h1, hg, -⟩
    · cases h1
    · injection h1 with h1
      injection h1 with h1
      injection h1 with h1 h2
      omega

set_option maxRecDepth 100000 in
set_option maxHeartbeats 8000000 in
theorem exec_none (a : Option Addr) (cap : Nat) (ps : List Lp) (aW : Option Addr) (cW : Nat) (ws : List (List UInt8)) (now : Int) (w : World) (hW : Wds w aW cW ws) (hc : Cm.checkS ws = none) :
    Calls Tryz.prog 9 #[.slice a ps.length cap, .slice aW ws.length cW, .int .i64 now] w (ExecOut (Ec.errR, []) w) := by
  have HZ := Lib.hid (Rz.new w)
  have hff := fun W (h : Wds W aW cW ws) => ecFind_any aW cW ws W h
  have HFF := Lib.hid hff
  have HFL := Lib.hid (fun W => failed_c W)
  have HW := Lib.hid hW
  have HC := Lib.hid hc
  clear hff hW hc
  go_enter Tryz.func9, Tryz.ntmps9
  go_wp2_with (first
    | (go_at_call 17; refine (HFF.out _ (HW.out.later HZ.out.2)).mono ?_; rintro e w2 ⟨hb2, hout⟩; rw [HC.out] at hout; subst hout; have HZ2 := Lib.hid (HZ.out.later hb2); clear hb2; unfold zeroRl)
    | (go_at_call 18; refine (HFL.out _).mono ?_; rintro e w4 ⟨rfl, hb4⟩; have hz4 := (HZ2.out.later ((Below.refl _ _).alloc (Nat.le_refl _) _)).later hb4; have HZ4 := Lib.hid hz4; obtain ⟨⟨z0, z1, z2, z3⟩, ⟨y0, y1, y2, y3⟩⟩ := hz4.1.at; clear hb4 hz4; simp only [flatV, rv]))
  refine bodyPost_ret (results_cellt rfl rfl (loadRb (HZ4.out.1.store 2 [69, 82, 82] 0 none 0 0))) rfl ⟨_, none, 0, [], rfl, rep_flat _ 2 [69, 82, 82] 0 (by decide) (by decide) (by decide), efs_nil _, fun _ => rfl, rfl, by simp, below_stRb HZ4.out.2 (Nat.le_refl _) _ _ _ _ _ _⟩

set_option maxRecDepth 100000 in
set_option maxHeartbeats 8000000 in
theorem exec_some (a : Option Addr) (cap : Nat) (ps : List Lp) (aW : Option Addr) (cW : Nat) (ws : List (List UInt8)) (now : Int) (w : World) (hP : Prs w a cap ps) (hn : ps.length ≤ 1000000) (hu : AscL ps) (hsm : ∀ p ∈ ps, p.p.Sm)
    (hW : Wds w aW cW ws) (hwl : ws.length ≤ 1000 ∧ ∀ s ∈ ws, s.length ≤ 1000000) (hnow : 0 ≤ now ∧ now ≤ 4611686018427387904) (s : Cm.Sp) (hc : Cm.checkS ws = some s) (rk : Ru.Rk) (hrk : Ru.find s.nm = some rk)
    (hkl : (Cm.keysOf ws).length ≤ 1000 ∧ ∀ s ∈ Cm.keysOf ws, s.length ≤ 1000000) (pre : Cl → Prop) (d : Ec.Do) (hdo : DoC rk.r.fn pre d) (hrd : rk.r.ids = [] ∨ NumC) (hids : (∀ j ∈ rk.r.ids, j < ws.length) ∧ rk.r.ids.length ≤ 10)
    (hpre : ∀ c : Cl, c.ws = ws → c.now = now → c.kind = rk.k → c.ks = Ec.once [] (Cm.keysOf ws) → Ec.readN ws rk.r.ids = some c.ns → (∀ k, c.it.i k = Ec.live now (Ec.before (ps.map Lp.p) c.ks) k) → FitsP c → pre c) :
    Calls Tryz.prog 9 #[.slice a ps.length cap, .slice aW ws.length cW, .int .i64 now] w (ExecOut (Ec.exec rk.k rk.r.ids d (ps.map Lp.p) ws now) w) := by
  have HZ := Lib.hid (Rz.new w)
  have HFF := Lib.hid (fun W (h : Wds W aW cW ws) => ecFind_any aW cW ws W h)
  have HBG := Lib.hid (fun W (h1 : Prs W a cap ps) (h2 : Wds W aW cW ws) => begin_any a cap ps aW cW ws now W h1 hn hu hsm h2 hwl hkl hnow)
  have HP := Lib.hid hP
  have HW := Lib.hid hW
  have HC := Lib.hid hc
  have HRK := Lib.hid hrk
  have HDO := Lib.hid hdo
  have HRD := Lib.hid hrd
  have HIDS := Lib.hid hids
  have HPRE := Lib.hid hpre
  clear hP hu hsm hW hc hrk hdo hrd hids hpre hwl hkl
  go_enter Tryz.func9, Tryz.ntmps9
  go_wp2_with fail
  refine (HFF.out _ (HW.out.later HZ.out.2)).mono ?_
  rintro e w2 ⟨hb2, hout⟩
  rw [HC.out] at hout
  obtain ⟨rk', na, h1, rfl, hN⟩ := hout
  rw [HRK.out] at h1
  cases h1
  have HZ2 := Lib.hid (HZ.out.later hb2)
  obtain ⟨kind, ⟨nm, ids, fn⟩⟩ := rk
  unfold rlV
  simp only at hN HRD HIDS HPRE HDO ⊢
  obtain ⟨an, nn, hnv⟩ : ∃ an nn, numsV na ids.length = .slice an nn nn := ⟨_, _, rfl⟩
  rw [hnv]
  obtain ⟨w3, hw3⟩ : ∃ w3, w2.alloc (.cells #[.string ⟨nm.toArray⟩, .int .i64 kind, .slice an nn nn, .func (.func fn) #[] #[]] 58) = w3 := ⟨_, rfl⟩
  have hb3 : Below w2.heap.size w2 w3 := by rw [← hw3]; exact (Below.refl _ _).alloc (Nat.le_refl _) _
  have hr3 : w3.heap[w2.heap.size]? = some (.cells #[.string ⟨nm.toArray⟩, .int .i64 kind, .slice an nn nn, .func (.func fn) #[] #[]] 58 (0, 0)) := by rw [← hw3]; exact World.alloc_heap_new _ _
  have HR3 := Lib.hid hr3
  have HZ3 := Lib.hid (HZ2.out.later hb3)
  have HN3 : Hid (NumsIn w3 na ids) := Lib.hid (hN.keep (Keeps.of_below hb3 fun _ h _ => h : Keeps (fun _ => True) w2 w3) fun _ _ => trivial)
  have HW3 := Lib.hid hw3
  have HNV := Lib.hid hnv
  have hz23 : w2.heap.size < w3.heap.size := (Array.getElem?_eq_some_iff.1 hr3).1
  clear hb2 hb3 hr3 hN hw3 hnv
  go_upto_region 4 with (fail)
  rw [HW3.out]
  go_wp2_with fail
  refine (HBG.out w3 (HP.out.later HZ3.out.2) (HW.out.later HZ3.out.2)).mono ?_
  rintro e w4 ⟨c, p, mb, mi, rfl, hA, hS⟩
  have hr4 := (hA.bel.block _ hz23).trans HR3.out
  have hN4 : NumsIn w4 na ids := HN3.out.keep (Keeps.of_below hA.bel fun _ h _ => h : Keeps (fun _ => True) w3 w4) fun _ _ => trivial
  obtain ⟨FV, hFV⟩ : ∃ FV, Ec.follow kind ids d c.ws c.now c.ks c.it.i = FV := ⟨_, rfl⟩
  have hks : c.ks = Ec.once [] (Cm.keysOf ws) := hS.e3
  have hex : Ec.exec kind ids d (ps.map Lp.p) ws now = if FV.1.k = 2 then (FV.1, []) else (FV.1, Ec.effects c.bf.i FV.2 c.ks) := by
    have e5 : c.it.i = Ec.live now (Ec.before (ps.map Lp.p) c.ks) := funext hS.e5
    have e4 : c.bf.i = Ec.before (ps.map Lp.p) c.ks := funext hS.e4
    rw [← hFV, e5, e4, hks, hS.e1.2.2.2.2.2, hS.e2.1]
    rfl
  have hfol := follow_c fn pre d HDO.out c w3 w4 kind nm ids na hA ⟨hS.e2.2.2.2.1, hS.e2.2.2.1, hS.e2.2.2.2.2, hS.e6.2⟩ hN4 HRD.out ⟨by rw [hS.e1.2.2.2.2.2]; exact HIDS.out.1, HIDS.out.2⟩
    (fun k i hi => by
      have h5 := hS.e5 k
      unfold ML.i at h5
      rw [show c.it k = some i from hi] at h5
      have h6 : Ec.live now (Ec.before (ps.map Lp.p) c.ks) k = some i.i := h5.symm
      by_cases hk : k ∈ c.ks
      · exact hk
      · simp [Ec.live, Ec.before, hk] at h6)
    (fun nv ns rs hf hr => HPRE.out _ hS.e1.2.2.2.2.2 hS.e2.1 rfl hks (by rw [hS.e1.2.2.2.2.2] at hr; exact hr) hS.e5 hf)
  rw [hFV, hS.e1.1] at hfol
  unfold rlV at hfol
  simp only [HNV.out] at hfol
  have r0 : w4.cell? ⟨w2.heap.size, 0, none⟩ = some (.string ⟨nm.toArray⟩) := by simp [World.cell?, hr4]
  have r1 : w4.cell? ⟨w2.heap.size, 1, none⟩ = some (.int .i64 kind) := by simp [World.cell?, hr4]
  have r2 : w4.cell? ⟨w2.heap.size, 2, none⟩ = some (.slice an nn nn) := by simp [World.cell?, hr4]
  have r3 : w4.cell? ⟨w2.heap.size, 3, none⟩ = some (.func (.func fn) #[] #[]) := by simp [World.cell?, hr4]
  have HFOL := Lib.hid hfol
  have HEX := Lib.hid hex
  have HP1 := Lib.hid hS.e1.1
  have hw34 := hA.bel.size
  have hwz := HZ3.out.2.size
  have hwl : w.heap.size < w3.heap.size := HZ3.out.1.lt
  clear hA hS hr4 hN4 hFV hks hex hfol
  go_wp2_with fail
  refine HFOL.out.mono ?_
  rintro e w5 ⟨v, kind', nv, ns, it, ni, inv, rfl, hA5, hrep, hit⟩
  obtain ⟨ra, rc, rfl, hfit, hrl⟩ := hrep.parts
  obtain ⟨⟨rk, rs, rn, rl⟩, M⟩ := FV
  simp only [Rp.R.k, Rp.R.s, Rp.R.n, Rp.R.l] at hrep hit HEX ⊢
  obtain ⟨c5, hc5⟩ : ∃ c5 : Cl, ({ c with kind := kind', nv := nv, ns := ns, it := it, ni := ni, inv := inv } : Cl) = c5 := ⟨_, rfl⟩
  have hp5 : c5.p = p ∧ c5.bf = c.bf ∧ c5.it = it ∧ c5.ks = c.ks := by rw [← hc5]; exact ⟨HP1.out, rfl, rfl, rfl⟩
  rw [hc5] at hA5
  obtain ⟨w6, hw6⟩ : ∃ w6, w5.alloc (.cells #[.int .i64 rk, .string ⟨rs.toArray⟩, .int .i64 rn, .slice ra rl.length rc] 26) = w6 := ⟨_, rfl⟩
  have hb6 : Below w5.heap.size w5 w6 := by rw [← hw6]; exact (Below.refl _ _).alloc (Nat.le_refl _) _
  have hx6 : Rb w6 w5.heap.size rk rs rn ra rl.length rc := by rw [← hw6]; exact World.alloc_heap_new _ _
  have hA6 := hA5.later hb6
  have hz6 := HZ3.out.later hA6.bel
  have HA6 := Lib.hid hA6
  have HZ6 := Lib.hid hz6
  have HREP := Lib.hid (hrep.later hb6)
  have HIT := Lib.hid hit
  have HP5 := Lib.hid hp5
  have HX6 := Lib.hid hx6
  have HW6 := Lib.hid hw6
  have hw36 : w3.heap.size ≤ w6.heap.size := hA6.bel.size
  have hw35 : w3.heap.size ≤ w5.heap.size := hA5.bel.size
  obtain ⟨⟨z0, z1, z2, z3⟩, ⟨y0, y1, y2, y3⟩⟩ := hz6.1.at
  obtain ⟨⟨x0, x1, x2, x3⟩, -⟩ := hx6.at
  have hBl6 := hx6.lt
  clear hA5 hrep hit hfit hrl hc5 hb6 hx6 hA6 hz6 hw6 hp5
  unfold rv
  go_upto_region 6 with (fail)
  rw [HW6.out]
  obtain ⟨B, hB⟩ : ∃ B, w5.heap.size = B := ⟨_, rfl⟩
  rw [hB] at x0 x1 x2 x3 hBl6 ⊢
  have HB := Lib.hid hB
  clear hB
  by_cases h2 : rk = 2
  · have hEX2 : Ec.exec kind ids d (ps.map Lp.p) ws now = (.mk rk rs rn rl, []) := HEX.out.trans (if_pos h2)
    have HEX2 := Lib.hid hEX2
    have HK2 := Lib.hid h2
    subst h2
    clear hEX2
    go_wp2
    refine bodyPost_ret (results_cellt rfl rfl (loadRb (HZ6.out.1.store 2 rs rn ra rl.length rc))) rfl ⟨_, none, 0, [], rfl, ?_, efs_nil _, fun _ => rfl, by rw [HEX2.out]; rfl, by simp, below_stRb HZ6.out.2 (Nat.le_refl _) _ _ _ _ _ _⟩
    rw [HEX2.out]
    have hkS : Keeps (fun k => k ≠ w.heap.size) w6 (stRb w6 w.heap.size 2 rs rn ra rl.length rc) := ((((Keeps.refl _ w6).setCell (p := ⟨w.heap.size, 0, none⟩) (.inr fun h => h rfl) _).setCell (p := ⟨w.heap.size, 1, none⟩) (.inr fun h => h rfl) _).setCell (p := ⟨w.heap.size, 2, none⟩) (.inr fun h => h rfl) _).setCell (p := ⟨w.heap.size, 3, none⟩) (.inr fun h => h rfl) _
    exact Rep.keeps (S := fun k => w3.heap.size ≤ k) (hkS.mono fun k _ h => by show k ≠ _; omega) (fun k hk _ => by show w.heap.size ≤ k; omega) _ _ (HREP.out.mono fun k hk _ => by omega)
  · have hEX2 : Ec.exec kind ids d (ps.map Lp.p) ws now = (.mk rk rs rn rl, Ec.effects c.bf.i M c.ks) := HEX.out.trans (if_neg h2)
    have HEX2 := Lib.hid hEX2
    have hbf : (rk == 2) = false := by simpa using h2
    have HNE := Lib.hid h2
    have hef := effects_c c5 w3 w6.drew (HA6.out.later (Below.refl _ _).drew)
    rw [HP5.out.1] at hef
    have HEF := Lib.hid hef
    clear hEX2 hef
    have hBne : B ≠ w.heap.size := by have := HB.out; have := HZ6.out.1.lt; omega
    go_wp2
    have HS0 : Keeps (fun k => k ≠ w.heap.size) w6 w6.drew := (Keeps.refl _ w6).drew
    refine wp_region_L (S := fun W => Keeps (fun k => k ≠ w.heap.size) w6 W) (f := 11) (by kernel_rfl) ?_
    refine wpAnyL_take (i := 0) (some 31) (v := .agg #[.int .i64 rk, .string ⟨rs.toArray⟩, .int .i64 rn, .slice ra rl.length rc]) rfl rfl (by kernel_rfl) (by kernel_rfl) (by kernel_rfl) (by kernel_rfl) (fun _ _ _ h => h) (by rfl) (fun W hS => ?_) HS0 ?_
    · have m0 := (hS.cell (p := ⟨B, 0, none⟩) hBl6 hBne).trans x0
      have m1 := (hS.cell (p := ⟨B, 1, none⟩) hBl6 hBne).trans x1
      have m2 := (hS.cell (p := ⟨B, 2, none⟩) hBl6 hBne).trans x2
      have m3 := (hS.cell (p := ⟨B, 3, none⟩) hBl6 hBne).trans x3
      go_simp
    try simp only [Act.put, List.setIfInBounds_toArray, List.set_cons_zero, List.set_cons_succ]
    refine wpAnyL_take (i := 1) (some 32) (v := .pointer (some ⟨p, 0, none⟩)) rfl rfl (by kernel_rfl) (by kernel_rfl) (by kernel_rfl) (by kernel_rfl) (fun _ _ _ h => h) (by rfl) (fun W hS => ?_) HS0 ?_
    · go_simp
    try simp only [Act.put, List.setIfInBounds_toArray, List.set_cons_zero, List.set_cons_succ]
    refine wpAnyL_one (j := 2) (by kernel_rfl) rfl (by rfl) (fun K hK => ?_)
    go_simp
    refine HEF.out.mono ?_
    rintro e w8 ⟨u, es, rfl, hrx, hes, hfar⟩
    have hb8 : Below w6.heap.size w6 w8 := ((Below.refl _ w6).drew).trans hrx.2.1
    have HS1 : Keeps (fun k => k ≠ w.heap.size) w6 w8 := Keeps.of_below hb8 fun k h _ => h
    have hz8 := HZ6.out.later hb8
    have HZ8 := Lib.hid hz8
    obtain ⟨⟨z0, z1, z2, z3⟩, ⟨y0, y1, y2, y3⟩⟩ := hz8.1.at
    have HRX := Lib.hid hrx
    have HES := Lib.hid hes
    have HFAR := Lib.hid hfar
    have HREP8 := Lib.hid (HREP.out.later hb8)
    refine hK _ _ (fun _ => HS1) ?_
    clear hK K hrx hes hfar hz8
    try simp only [Act.put, List.setIfInBounds_toArray, List.set_cons_zero, List.set_cons_succ]
    refine wpAnyL_one (j := 3) (by kernel_rfl) rfl (by rfl) (fun K hK => ?_)
    go_simp
    have hkS : Keeps (fun k => k ≠ w.heap.size) w8 (stRb w8 w.heap.size rk rs rn ra rl.length rc) := ((((Keeps.refl _ w8).setCell (p := ⟨w.heap.size, 0, none⟩) (.inr fun h => h rfl) _).setCell (p := ⟨w.heap.size, 1, none⟩) (.inr fun h => h rfl) _).setCell (p := ⟨w.heap.size, 2, none⟩) (.inr fun h => h rfl) _).setCell (p := ⟨w.heap.size, 3, none⟩) (.inr fun h => h rfl) _
    have HKS := Lib.hid hkS
    refine hK _ _ (fun _ => HS1.trans hkS) ?_
    clear hK K hkS
    try simp only [Act.put, List.setIfInBounds_toArray, List.set_cons_zero, List.set_cons_succ]
    refine wpAnyL_one (j := 4) (by kernel_rfl) rfl (by rfl) (fun K hK => ?_)
    go_simp
    refine hK _ _ (fun _ => HS1.trans HKS.out) ?_
    clear hK K
    try simp only [Act.put, List.setIfInBounds_toArray, List.set_cons_zero, List.set_cons_succ]
    refine wpAnyL_done (by kernel_rfl) ?_ _
    go_wp2
    obtain ⟨a', cap', rfl, hefs, hn'⟩ := HRX.out.keepB (B := w.heap.size) (by show w.heap.size < w6.heap.size; omega) HKS.out (fun e he => HFAR.out e he _ (by show w.heap.size < w6.heap.size; omega))
    refine bodyPost_ret (results_cellt rfl rfl (loadRb (HZ8.out.1.store rk rs rn ra rl.length rc))) rfl ⟨_, a', cap', es, rfl, ?_, hefs, hn', ?_, fun e he g hg => HFAR.out e he g (by show g < w6.heap.size; omega), below_stRb HZ8.out.2 (Nat.le_refl _) _ _ _ _ _ _⟩
    · rw [HEX2.out]
      exact Rep.keeps (S := fun k => w3.heap.size ≤ k) (HKS.out.mono fun k _ h => by show k ≠ _; omega) (fun k hk _ => by show w.heap.size ≤ k; omega) _ _ (HREP8.out.mono fun k hk _ => by omega)
    · rw [HEX2.out, HES.out, HP5.out.2.1, HP5.out.2.2.1, HP5.out.2.2.2, show it.i = M from funext HIT.out]
end Go.Proofs.YtokcbcjonbjkgaaGreatDoor
namespace Go.Proofs.YtokcbcjonbjkgaaGreatDoor
open Go.RowKit Go.Shelf
attribute [local go_sem] Oper.semAt_some
set_option linter.unusedVariables false
set_option linter.unusedSimpArgs false

/-- what give tells. -/
def GiveOut (w0 : World) (c : Cl) (s : Ec.St) (W0 : World) (e : Ending) (W : World) : Prop :=
  Keeps (fun k => ¬ c.own k) W0 W ∧ ∃ v it ni inv, e = .returned v ∧ ({ c with it := it, ni := ni, inv := inv } : Cl).At w0 W ∧ (∀ k, it.i k = s.it k) ∧ inv = s.inv ∧ ni ≤ c.ni + 1
theorem updI_none (f : ML) (key : List UInt8) (k : List UInt8) : (ML.v fun x => if x = key then none else f x) k = updI f.v key none k := by
  unfold ML.v updI
  by_cases h : k = key <;> simp [h]
theorem updI_some (f : ML) (key : List UInt8) (v : Li) (k : List UInt8) : (ML.v fun x => if x = key then some v else f x) k = updI f.v key (some v.v) k := by
  unfold ML.v updI
  by_cases h : k = key <;> simp [h]
theorem upd_i (f : ML) (key : List UInt8) (v : Option Li) (k : List UInt8) : (ML.i fun x => if x = key then v else f x) k = Ec.upd f.i key (v.map Li.i) k := by
  unfold ML.i Ec.upd
  by_cases h : k = key <;> simp [h]

theorem noneB_iff {i : It.I} : Ec.noneB i = true ↔ i.kind ≠ 1 ∧ i.f = [] ∧ i.l = [] := by
  simp only [Ec.noneB, Bool.and_eq_true, decide_eq_true_eq, and_assoc]

set_option maxRecDepth 100000 in
set_option maxHeartbeats 8000000 in
theorem give_none (c : Cl) (w0 W : World) (key : List UInt8) (i : Li) (h : c.At w0 W) (hkey : key.length ≤ 1000000) (hn : Ec.noneB i.i = true) :
    Calls Tryz.prog 126 #[.pointer (some ⟨c.p, 0, none⟩), .string ⟨key.toArray⟩, i.v] W (GiveOut w0 c (Ec.give ⟨c.it.i, c.inv⟩ key i.i) W) := by
  obtain ⟨k, s, aF, fs, cF, aL, ls, cL, x⟩ := i
  have hn2 : k ≠ 1 ∧ fs = [] ∧ ls = [] := noneB_iff.1 hn
  obtain ⟨hk, rfl, rfl⟩ := hn2
  have HK := Lib.hid hk
  have hk1 : (k != 1) = true := by simpa using hk
  obtain ⟨W1, hW1⟩ : ∃ W1, W.alloc (.cells #[.int .i64 k, .string ⟨s.toArray⟩, .slice aF 0 cF, .slice aL 0 cL, .int .i64 x] 38) = W1 := ⟨_, rfl⟩
  have hA := h.later (W' := W1) (by rw [← hW1]; exact (Below.refl _ _).alloc (Nat.le_refl _) _)
  obtain ⟨-, -, -, -, -, -, q6, -⟩ := hA.cell
  have HA := Lib.hid hA
  have HW1 := Lib.hid hW1
  have HN := Lib.hid hn
  have HKP : Hid (Keeps (fun k => ¬ c.own k) W W1) := Lib.hid (by rw [← hW1]; exact (Keeps.refl _ _).alloc _)
  clear h hA hW1 hn hk
  simp only [Li.v, itv, List.length_nil]
  go_enter Tryz.func126, Tryz.ntmps126
  go_upto_region 2 with (fail)
  rw [HW1.out]
  go_wp2_with (at_delete; refine wpList_delI _ rfl (.tmp 24) (.tmp 25) rfl c.mi c.ni c.it.v rfl HA.out.hi key rfl hkey ?_; intro w2 hm2 ht2; have HM2 := Lib.hid hm2; have HT2 := Lib.hid (MapTurned.keeps ht2); clear hm2 ht2)
  go_end0
  have hA2 := HA.out.items HT2.out c.ni (fun y => if y = key then none else c.it y) (HM2.out.ext fun y => (updI_none c.it key y).symm) HA.out.siz.2 (fun y i e => by
    by_cases hy : y = key
    · rw [if_pos hy] at e; cases e
    · rw [if_neg hy] at e; exact .inl e)
  refine ⟨HKP.out.trans (HT2.out.mono fun y _ h e => h (.inr (.inr (.inl e)))), _, _, _, _, rfl, hA2, fun y => ?_, ?_, by omega⟩
  · unfold Ec.give
    rw [HN.out, if_pos rfl]
    exact upd_i c.it key none y
  · unfold Ec.give
    rw [HN.out, if_pos rfl]

set_option maxRecDepth 100000 in
set_option maxHeartbeats 8000000 in
/-- ahead of the condition: the item's box. -/
theorem give_some (c : Cl) (w0 W : World) (key : List UInt8) (i : Li) (h : c.At w0 W) (hkey : key.length ≤ 1000000) (hi : i.Ok W) (hoff : i.Off c) (hsm : i.i.Sm) (hni : c.ni < 100000) (hn : Ec.noneB i.i = false) :
    Calls Tryz.prog 126 #[.pointer (some ⟨c.p, 0, none⟩), .string ⟨key.toArray⟩, i.v] W (GiveOut w0 c (Ec.give ⟨c.it.i, c.inv⟩ key i.i) W) := by
  obtain ⟨k, s, aF, fs, cF, aL, ls, cL, x⟩ := i
  have hcase : k = 1 ∨ (k ≠ 1 ∧ fs ≠ []) ∨ (k ≠ 1 ∧ fs = [] ∧ ls ≠ []) := by
    by_cases h1 : k = 1
    · exact .inl h1
    · by_cases h2 : fs = []
      · by_cases h3 : ls = []
        · have := (noneB_iff (i := Li.i ⟨k, s, aF, fs, cF, aL, ls, cL, x⟩)).2 ⟨h1, h2, h3⟩
          rw [this] at hn; cases hn
        · exact .inr (.inr ⟨h1, h2, h3⟩)
      · exact .inr (.inl ⟨h1, h2⟩)
  obtain ⟨p, hp⟩ : ∃ p, c.p = p := ⟨_, rfl⟩
  obtain ⟨mi, hmi⟩ : ∃ mi, c.mi = mi := ⟨_, rfl⟩
  obtain ⟨W1, hW1⟩ : ∃ W1, W.alloc (.cells #[.int .i64 k, .string ⟨s.toArray⟩, .slice aF fs.length cF, .slice aL ls.length cL, .int .i64 x] 38) = W1 := ⟨_, rfl⟩
  have hb1 : Below W.heap.size W W1 := by rw [← hW1]; exact (Below.refl _ _).alloc (Nat.le_refl _) _
  have hxb : ItBox W1 W.heap.size k s aF fs.length cF aL ls.length cL x := by rw [← hW1]; exact ItBox.new W k s aF fs.length cF aL ls.length cL x
  have hA := h.later hb1
  have HA := Lib.hid hA
  have HXB := Lib.hid hxb
  have HP := Lib.hid (And.intro hp hmi)
  have HW1 := Lib.hid hW1
  have HI := Lib.hid (hi.later hb1)
  have HOF := Lib.hid hoff
  have HSM := Lib.hid hsm
  have HN := Lib.hid hn
  have HKP : Hid (Keeps (fun k => ¬ c.own k) W W1) := Lib.hid (Keeps.of_below hb1 fun _ h _ => h)
  have HMY := Lib.hid (fun W' (hb : Below W1.heap.size W1 W') => may_any k x s aF cF fs aL cL ls W' (HI.out.later hb).2.1 (HI.out.later hb).2.2.1 hsm.2.1 hsm.2.2.1)
  obtain ⟨mb, hmb⟩ : ∃ mb, It.mayB ⟨k, s, fs, ls, x⟩ = mb := ⟨_, rfl⟩
  rw [hmb] at HMY
  have HMB := Lib.hid hmb
  obtain ⟨-, -, -, -, -, -, q6, q7⟩ := hA.cell
  have f7 := hA.free 7 (by omega)
  rw [hp] at q6 q7 f7
  rw [hmi] at q6
  obtain ⟨y0, y1, y2, y3, y4⟩ := hxb.at
  have hBl1 := hxb.lt
  have hpl1 : p < W1.heap.size := by rw [← hp]; exact hA.lt.1
  rw [hp]
  simp only [Li.v, itv]
  unfold itv at HMY
  clear h hA hxb hp hmi hW1 hi hoff hsm hn hb1 hmb
  -- what follows the test
  have hfin : ∀ (w2 : World) (b : Bool), Below W1.heap.size W1 w2 → b = (c.inv || !mb) → ∃ wq, wq = w2.setCell ⟨p, 7, none⟩ (.bool b) ∧ ({ c with inv := b } : Cl).At w0 wq ∧ ItBox wq W.heap.size k s aF fs.length cF aL ls.length cL x ∧ Keeps (fun k => ¬ c.own k) W1 wq := by
    intro w2 b hb2 hb
    have hA2 := (HA.out.later hb2).setInv b
    rw [HP.out.1] at hA2
    have hk : Keeps (fun k => k ≠ p) w2 (w2.setCell ⟨p, 7, none⟩ (.bool b)) := setCell_keeps _ _ _ _
    have hx2 : ItBox w2 W.heap.size k s aF fs.length cF aL ls.length cL x := (hb2.block _ hBl1).trans HXB.out
    have hno := (HA.out.later hb2).notown hx2 (by decide) (by decide) (by decide)
    exact ⟨_, rfl, by obtain ⟨rfl, -⟩ := HP.out; exact hA2, hk.heap hx2 (fun e => hno (.inl (e.trans HP.out.1.symm))), (Keeps.of_below hb2 fun _ h _ => h).trans (hk.mono fun y _ h e => h (.inl (e.trans HP.out.1.symm)))⟩
  have HFIN := Lib.hid hfin
  clear hfin
  have hend : ∀ (wq wz : World), ({ c with inv := (c.inv || !mb) } : Cl).At w0 wq → Keeps (fun k => ¬ c.own k) W1 wq → Keeps (fun k => k ≠ mi) wq wz → MapI wz mi (c.ni + 1) (updI c.it.v key (some (.agg #[.int .i64 k, .string ⟨s.toArray⟩, .slice aF fs.length cF, .slice aL ls.length cL, .int .i64 x]))) → ∀ v, GiveOut w0 c (Ec.give ⟨c.it.i, c.inv⟩ key (Li.i ⟨k, s, aF, fs, cF, aL, ls, cL, x⟩)) W (.returned v) wz := by
    intro wq wz hAq hkq hkz hmz v
    have hi2 : (⟨k, s, aF, fs, cF, aL, ls, cL, x⟩ : Li).Ok wq := HI.out.keptO (fun g hg => HOF.out g (.inl hg)) hkq
    have hA3 := hAq.items (W' := wz) (by show Keeps (fun y => y ≠ c.mi) wq wz; rw [HP.out.2]; exact hkz) (c.ni + 1) (fun y => if y = key then some ⟨k, s, aF, fs, cF, aL, ls, cL, x⟩ else c.it y)
      (by show MapI wz c.mi _ _; rw [HP.out.2]; exact hmz.ext fun y => (updI_some c.it key ⟨k, s, aF, fs, cF, aL, ls, cL, x⟩ y).symm) (by omega) (fun y i e => by
      by_cases hy : y = key
      · rw [if_pos hy] at e; cases e; exact .inr ⟨hi2, HOF.out, HSM.out⟩
      · rw [if_neg hy] at e; exact .inl e)
    refine ⟨(HKP.out.trans hkq).trans (hkz.mono fun y _ h e => h (.inr (.inr (.inl (e.trans HP.out.2.symm))))), v, _, _, _, rfl, hA3, fun y => ?_, ?_, Nat.le_refl _⟩
    · unfold Ec.give
      rw [HN.out, if_neg (by decide)]
      exact upd_i c.it key (some ⟨k, s, aF, fs, cF, aL, ls, cL, x⟩) y
    · unfold Ec.give
      rw [HN.out, if_neg (by decide)]
      show (c.inv || !mb) = (c.inv || !It.mayB (Li.i ⟨k, s, aF, fs, cF, aL, ls, cL, x⟩))
      rw [← HMB.out]
      rfl
  have HEND := Lib.hid hend
  clear hend
  obtain ⟨iv, hiv⟩ : ∃ iv, c.inv = iv := ⟨_, rfl⟩
  rw [hiv] at q7
  have HIV := Lib.hid hiv
  clear hiv
  rcases hcase with hk | ⟨hk, hf⟩ | ⟨hk, hf, hl⟩
  · have b1 : (k != 1) = false := by simpa using hk
    clear hk
    cases iv with
    | true =>
      go_enter Tryz.func126, Tryz.ntmps126
      go_upto_region 3 with (fail)
      rw [HW1.out]
      have HB2 := Lib.hid (Below.refl W1.heap.size W1)
      obtain ⟨w2, hw2⟩ : ∃ w2, w2 = W1 := ⟨_, rfl⟩
      rw [← hw2] at HB2
      have hw2' := hw2
      go_upto_region 4 with (fail)
      subst hw2
      obtain ⟨wq, hwq, hAq, hxq, hkq⟩ := HFIN.out w2 true HB2.out (by rw [HIV.out]; rfl)
      rw [← hwq]
      obtain ⟨-, -, -, -, -, -, q6, -⟩ := hAq.cell
      simp only at q6
      rw [HP.out.1, HP.out.2] at q6
      have hpl : p < wq.heap.size := by rw [← HP.out.1]; exact hAq.lt.1
      have hpmi : p ≠ mi := by rw [← HP.out.1, ← HP.out.2]; exact hAq.ne.2
      have hBl := hxq.lt
      have hBmi : W.heap.size ≠ mi := fun e => by
        obtain ⟨es, cl, hm⟩ := hAq.hi.obj
        rw [show ({ c with inv := true } : Cl).mi = W.heap.size from HP.out.2.trans e.symm] at hm
        rw [hxq] at hm
        cases hm
      obtain ⟨x0, x1, x2, x3, x4⟩ := hxq.at
      have HM : Hid (MapI wq mi c.ni c.it.v) := Lib.hid (by rw [← HP.out.2]; exact hAq.hi)
      have HAQ := Lib.hid hAq
      have HKQ := Lib.hid hkq
      obtain ⟨B, hB⟩ : ∃ B, W.heap.size = B := ⟨_, rfl⟩
      rw [hB] at x0 x1 x2 x3 x4 hBl hBmi ⊢
      clear hwq hAq hxq hkq
      have HS0 : Keeps (fun k => k ≠ mi) wq wq.drew := (Keeps.refl _ wq).drew
      refine wp_region_L (S := fun W => Keeps (fun k => k ≠ mi) wq W) (f := 7) (by kernel_rfl) ?_
      refine wpAnyL_take (i := 0) (some 38) (v := .pointer (some ⟨p, 0, none⟩)) rfl rfl (by kernel_rfl) (by kernel_rfl) (by kernel_rfl) (by kernel_rfl) (fun _ _ _ h => h) (by rfl) (fun W hS => ?_) HS0 ?_
      · go_simp
      try simp only [Act.put, List.setIfInBounds_toArray, List.set_cons_zero, List.set_cons_succ]
      refine wpAnyL_take (i := 1) (some 39) (v := .pointer (some ⟨p, 0, none⟩)) rfl rfl (by kernel_rfl) (by kernel_rfl) (by kernel_rfl) (by kernel_rfl) (fun _ _ _ h => h) (by rfl) (fun W hS => ?_) HS0 ?_
      · go_simp
      try simp only [Act.put, List.setIfInBounds_toArray, List.set_cons_zero, List.set_cons_succ]
      refine wpAnyL_take (i := 2) (some 40) (v := .pointer (some ⟨p, 6, none⟩)) rfl rfl (by kernel_rfl) (by kernel_rfl) (by kernel_rfl) (by kernel_rfl) (fun _ _ _ h => h) (by rfl) (fun W hS => ?_) HS0 ?_
      · go_simp
      try simp only [Act.put, List.setIfInBounds_toArray, List.set_cons_zero, List.set_cons_succ]
      refine wpAnyL_take (i := 3) (some 41) (v := .map (some mi)) rfl rfl (by kernel_rfl) (by kernel_rfl) (by kernel_rfl) (by kernel_rfl) (fun _ _ _ h => h) (by rfl) (fun W hS => ?_) HS0 ?_
      · have m0 := (hS.cell (p := ⟨p, 6, none⟩) hpl hpmi).trans q6
        go_simp
      try simp only [Act.put, List.setIfInBounds_toArray, List.set_cons_zero, List.set_cons_succ]
      refine wpAnyL_take (i := 4) (some 42) (v := .string ⟨key.toArray⟩) rfl rfl (by kernel_rfl) (by kernel_rfl) (by kernel_rfl) (by kernel_rfl) (fun _ _ _ h => h) (by rfl) (fun W hS => ?_) HS0 ?_
      · go_simp
      try simp only [Act.put, List.setIfInBounds_toArray, List.set_cons_zero, List.set_cons_succ]
      refine wpAnyL_one (j := 5) (by kernel_rfl) rfl (by rfl) (fun K hK => ?_)
      go_simp
      refine hK _ _ (fun _ => HS0) ?_
      clear hK K
      try simp only [Act.put, List.setIfInBounds_toArray, List.set_cons_zero, List.set_cons_succ]
      refine wpAnyL_one (j := 6) (by kernel_rfl) rfl (by rfl) (fun K hK => ?_)
      refine wp_putI _ (.tmp 41) (.tmp 42) (.tmp 43) rfl mi c.ni c.it.v rfl HM.out.drew (by omega) key (.agg #[.int .i64 k, .string ⟨s.toArray⟩, .slice aF fs.length cF, .slice aL ls.length cL, .int .i64 x]) rfl rfl hkey ?_
      intro wz hmz hkz
      refine hK _ _ (fun _ => HS0.trans hkz) ?_
      clear hK K
      try simp only [Act.put, List.setIfInBounds_toArray, List.set_cons_zero, List.set_cons_succ]
      refine wpAnyL_done (by kernel_rfl) ?_ _
      go_end0
      exact HEND.out wq wz (by rw [HIV.out]; exact HAQ.out) HKQ.out (HS0.trans hkz) hmz _
    | false =>
      go_enter Tryz.func126, Tryz.ntmps126
      go_upto_region 3 with (fail)
      rw [HW1.out]
      go_wp2_with (go_at_call 161; refine (HMY.out _ (Below.refl _ _)).mono ?_; rintro e w2 ⟨rfl, hb2⟩; have HB2 := Lib.hid hb2; have q7b := (hb2.cell (p := ⟨p, 7, none⟩) hpl1).trans q7; have f7b := (hb2.frozen (p := ⟨p, 7, none⟩) hpl1).trans f7; clear hb2)
      obtain ⟨wq, hwq, hAq, hxq, hkq⟩ := HFIN.out w2 (!mb) HB2.out (by rw [HIV.out]; rfl)
      rw [← hwq]
      obtain ⟨-, -, -, -, -, -, q6, -⟩ := hAq.cell
      simp only at q6
      rw [HP.out.1, HP.out.2] at q6
      have hpl : p < wq.heap.size := by rw [← HP.out.1]; exact hAq.lt.1
      have hpmi : p ≠ mi := by rw [← HP.out.1, ← HP.out.2]; exact hAq.ne.2
      have hBl := hxq.lt
      have hBmi : W.heap.size ≠ mi := fun e => by
        obtain ⟨es, cl, hm⟩ := hAq.hi.obj
        rw [show ({ c with inv := (!mb) } : Cl).mi = W.heap.size from HP.out.2.trans e.symm] at hm
        rw [hxq] at hm
        cases hm
      obtain ⟨x0, x1, x2, x3, x4⟩ := hxq.at
      have HM : Hid (MapI wq mi c.ni c.it.v) := Lib.hid (by rw [← HP.out.2]; exact hAq.hi)
      have HAQ := Lib.hid hAq
      have HKQ := Lib.hid hkq
      obtain ⟨B, hB⟩ : ∃ B, W.heap.size = B := ⟨_, rfl⟩
      rw [hB] at x0 x1 x2 x3 x4 hBl hBmi ⊢
      clear hwq hAq hxq hkq
      have HS0 : Keeps (fun k => k ≠ mi) wq wq.drew := (Keeps.refl _ wq).drew
      refine wp_region_L (S := fun W => Keeps (fun k => k ≠ mi) wq W) (f := 7) (by kernel_rfl) ?_
      refine wpAnyL_take (i := 0) (some 38) (v := .pointer (some ⟨p, 0, none⟩)) rfl rfl (by kernel_rfl) (by kernel_rfl) (by kernel_rfl) (by kernel_rfl) (fun _ _ _ h => h) (by rfl) (fun W hS => ?_) HS0 ?_
      · go_simp
      try simp only [Act.put, List.setIfInBounds_toArray, List.set_cons_zero, List.set_cons_succ]
      refine wpAnyL_take (i := 1) (some 39) (v := .pointer (some ⟨p, 0, none⟩)) rfl rfl (by kernel_rfl) (by kernel_rfl) (by kernel_rfl) (by kernel_rfl) (fun _ _ _ h => h) (by rfl) (fun W hS => ?_) HS0 ?_
      · go_simp
      try simp only [Act.put, List.setIfInBounds_toArray, List.set_cons_zero, List.set_cons_succ]
      refine wpAnyL_take (i := 2) (some 40) (v := .pointer (some ⟨p, 6, none⟩)) rfl rfl (by kernel_rfl) (by kernel_rfl) (by kernel_rfl) (by kernel_rfl) (fun _ _ _ h => h) (by rfl) (fun W hS => ?_) HS0 ?_
      · go_simp
      try simp only [Act.put, List.setIfInBounds_toArray, List.set_cons_zero, List.set_cons_succ]
      refine wpAnyL_take (i := 3) (some 41) (v := .map (some mi)) rfl rfl (by kernel_rfl) (by kernel_rfl) (by kernel_rfl) (by kernel_rfl) (fun _ _ _ h => h) (by rfl) (fun W hS => ?_) HS0 ?_
      · have m0 := (hS.cell (p := ⟨p, 6, none⟩) hpl hpmi).trans q6
        go_simp
      try simp only [Act.put, List.setIfInBounds_toArray, List.set_cons_zero, List.set_cons_succ]
      refine wpAnyL_take (i := 4) (some 42) (v := .string ⟨key.toArray⟩) rfl rfl (by kernel_rfl) (by kernel_rfl) (by kernel_rfl) (by kernel_rfl) (fun _ _ _ h => h) (by rfl) (fun W hS => ?_) HS0 ?_
      · go_simp
      try simp only [Act.put, List.setIfInBounds_toArray, List.set_cons_zero, List.set_cons_succ]
      refine wpAnyL_one (j := 5) (by kernel_rfl) rfl (by rfl) (fun K hK => ?_)
      go_simp
      refine hK _ _ (fun _ => HS0) ?_
      clear hK K
      try simp only [Act.put, List.setIfInBounds_toArray, List.set_cons_zero, List.set_cons_succ]
      refine wpAnyL_one (j := 6) (by kernel_rfl) rfl (by rfl) (fun K hK => ?_)
      refine wp_putI _ (.tmp 41) (.tmp 42) (.tmp 43) rfl mi c.ni c.it.v rfl HM.out.drew (by omega) key (.agg #[.int .i64 k, .string ⟨s.toArray⟩, .slice aF fs.length cF, .slice aL ls.length cL, .int .i64 x]) rfl rfl hkey ?_
      intro wz hmz hkz
      refine hK _ _ (fun _ => HS0.trans hkz) ?_
      clear hK K
      try simp only [Act.put, List.setIfInBounds_toArray, List.set_cons_zero, List.set_cons_succ]
      refine wpAnyL_done (by kernel_rfl) ?_ _
      go_end0
      exact HEND.out wq wz (by rw [HIV.out]; exact HAQ.out) HKQ.out (HS0.trans hkz) hmz _
  · have b1 : (k != 1) = true := by simpa using hk
    have b2 : ((fs.length : Int) == 0) = false := by simpa using hf
    clear hk hf
    cases iv with
    | true =>
      go_enter Tryz.func126, Tryz.ntmps126
      go_upto_region 3 with (fail)
      rw [HW1.out]
      have HB2 := Lib.hid (Below.refl W1.heap.size W1)
      obtain ⟨w2, hw2⟩ : ∃ w2, w2 = W1 := ⟨_, rfl⟩
      rw [← hw2] at HB2
      have hw2' := hw2
      go_upto_region 4 with (fail)
      subst hw2
      obtain ⟨wq, hwq, hAq, hxq, hkq⟩ := HFIN.out w2 true HB2.out (by rw [HIV.out]; rfl)
      rw [← hwq]
      obtain ⟨-, -, -, -, -, -, q6, -⟩ := hAq.cell
      simp only at q6
      rw [HP.out.1, HP.out.2] at q6
      have hpl : p < wq.heap.size := by rw [← HP.out.1]; exact hAq.lt.1
      have hpmi : p ≠ mi := by rw [← HP.out.1, ← HP.out.2]; exact hAq.ne.2
      have hBl := hxq.lt
      have hBmi : W.heap.size ≠ mi := fun e => by
        obtain ⟨es, cl, hm⟩ := hAq.hi.obj
        rw [show ({ c with inv := true } : Cl).mi = W.heap.size from HP.out.2.trans e.symm] at hm
        rw [hxq] at hm
        cases hm
      obtain ⟨x0, x1, x2, x3, x4⟩ := hxq.at
      have HM : Hid (MapI wq mi c.ni c.it.v) := Lib.hid (by rw [← HP.out.2]; exact hAq.hi)
      have HAQ := Lib.hid hAq
      have HKQ := Lib.hid hkq
      obtain ⟨B, hB⟩ : ∃ B, W.heap.size = B := ⟨_, rfl⟩
      rw [hB] at x0 x1 x2 x3 x4 hBl hBmi ⊢
      clear hwq hAq hxq hkq
      have HS0 : Keeps (fun k => k ≠ mi) wq wq.drew := (Keeps.refl _ wq).drew
      refine wp_region_L (S := fun W => Keeps (fun k => k ≠ mi) wq W) (f := 7) (by kernel_rfl) ?_
      refine wpAnyL_take (i := 0) (some 38) (v := .pointer (some ⟨p, 0, none⟩)) rfl rfl (by kernel_rfl) (by kernel_rfl) (by kernel_rfl) (by kernel_rfl) (fun _ _ _ h => h) (by rfl) (fun W hS => ?_) HS0 ?_
      · go_simp
      try simp only [Act.put, List.setIfInBounds_toArray, List.set_cons_zero, List.set_cons_succ]
      refine wpAnyL_take (i := 1) (some 39) (v := .pointer (some ⟨p, 0, none⟩)) rfl rfl (by kernel_rfl) (by kernel_rfl) (by kernel_rfl) (by kernel_rfl) (fun _ _ _ h => h) (by rfl) (fun W hS => ?_) HS0 ?_
      · go_simp
      try simp only [Act.put, List.setIfInBounds_toArray, List.set_cons_zero, List.set_cons_succ]
      refine wpAnyL_take (i := 2) (some 40) (v := .pointer (some ⟨p, 6, none⟩)) rfl rfl (by kernel_rfl) (by kernel_rfl) (by kernel_rfl) (by kernel_rfl) (fun _ _ _ h => h) (by rfl) (fun W hS => ?_) HS0 ?_
      · go_simp
      try simp only [Act.put, List.setIfInBounds_toArray, List.set_cons_zero, List.set_cons_succ]
      refine wpAnyL_take (i := 3) (some 41) (v := .map (some mi)) rfl rfl (by kernel_rfl) (by kernel_rfl) (by kernel_rfl) (by kernel_rfl) (fun _ _ _ h => h) (by rfl) (fun W hS => ?_) HS0 ?_
      · have m0 := (hS.cell (p := ⟨p, 6, none⟩) hpl hpmi).trans q6
        go_simp
      try simp only [Act.put, List.setIfInBounds_toArray, List.set_cons_zero, List.set_cons_succ]
      refine wpAnyL_take (i := 4) (some 42) (v := .string ⟨key.toArray⟩) rfl rfl (by kernel_rfl) (by kernel_rfl) (by kernel_rfl) (by kernel_rfl) (fun _ _ _ h => h) (by rfl) (fun W hS => ?_) HS0 ?_
      · go_simp
      try simp only [Act.put, List.setIfInBounds_toArray, List.set_cons_zero, List.set_cons_succ]
      refine wpAnyL_one (j := 5) (by kernel_rfl) rfl (by rfl) (fun K hK => ?_)
      go_simp
      refine hK _ _ (fun _ => HS0) ?_
      clear hK K
      try simp only [Act.put, List.setIfInBounds_toArray, List.set_cons_zero, List.set_cons_succ]
      refine wpAnyL_one (j := 6) (by kernel_rfl) rfl (by rfl) (fun K hK => ?_)
      refine wp_putI _ (.tmp 41) (.tmp 42) (.tmp 43) rfl mi c.ni c.it.v rfl HM.out.drew (by omega) key (.agg #[.int .i64 k, .string ⟨s.toArray⟩, .slice aF fs.length cF, .slice aL ls.length cL, .int .i64 x]) rfl rfl hkey ?_
      intro wz hmz hkz
      refine hK _ _ (fun _ => HS0.trans hkz) ?_
      clear hK K
      try simp only [Act.put, List.setIfInBounds_toArray, List.set_cons_zero, List.set_cons_succ]
      refine wpAnyL_done (by kernel_rfl) ?_ _
      go_end0
      exact HEND.out wq wz (by rw [HIV.out]; exact HAQ.out) HKQ.out (HS0.trans hkz) hmz _
    | false =>
      go_enter Tryz.func126, Tryz.ntmps126
      go_upto_region 3 with (fail)
      rw [HW1.out]
      go_wp2_with (go_at_call 161; refine (HMY.out _ (Below.refl _ _)).mono ?_; rintro e w2 ⟨rfl, hb2⟩; have HB2 := Lib.hid hb2; have q7b := (hb2.cell (p := ⟨p, 7, none⟩) hpl1).trans q7; have f7b := (hb2.frozen (p := ⟨p, 7, none⟩) hpl1).trans f7; clear hb2)
      obtain ⟨wq, hwq, hAq, hxq, hkq⟩ := HFIN.out w2 (!mb) HB2.out (by rw [HIV.out]; rfl)
      rw [← hwq]
      obtain ⟨-, -, -, -, -, -, q6, -⟩ := hAq.cell
      simp only at q6
      rw [HP.out.1, HP.out.2] at q6
      have hpl : p < wq.heap.size := by rw [← HP.out.1]; exact hAq.lt.1
      have hpmi : p ≠ mi := by rw [← HP.out.1, ← HP.out.2]; exact hAq.ne.2
      have hBl := hxq.lt
      have hBmi : W.heap.size ≠ mi := fun e => by
        obtain ⟨es, cl, hm⟩ := hAq.hi.obj
        rw [show ({ c with inv := (!mb) } : Cl).mi = W.heap.size from HP.out.2.trans e.symm] at hm
        rw [hxq] at hm
        cases hm
      obtain ⟨x0, x1, x2, x3, x4⟩ := hxq.at
      have HM : Hid (MapI wq mi c.ni c.it.v) := Lib.hid (by rw [← HP.out.2]; exact hAq.hi)
      have HAQ := Lib.hid hAq
      have HKQ := Lib.hid hkq
      obtain ⟨B, hB⟩ : ∃ B, W.heap.size = B := ⟨_, rfl⟩
      rw [hB] at x0 x1 x2 x3 x4 hBl hBmi ⊢
      clear hwq hAq hxq hkq
      have HS0 : Keeps (fun k => k ≠ mi) wq wq.drew := (Keeps.refl _ wq).drew
      refine wp_region_L (S := fun W => Keeps (fun k => k ≠ mi) wq W) (f := 7) (by kernel_rfl) ?_
      refine wpAnyL_take (i := 0) (some 38) (v := .pointer (some ⟨p, 0, none⟩)) rfl rfl (by kernel_rfl) (by kernel_rfl) (by kernel_rfl) (by kernel_rfl) (fun _ _ _ h => h) (by rfl) (fun W hS => ?_) HS0 ?_
      · go_simp
      try simp only [Act.put, List.setIfInBounds_toArray, List.set_cons_zero, List.set_cons_succ]
      refine wpAnyL_take (i := 1) (some 39) (v := .pointer (some ⟨p, 0, none⟩)) rfl rfl (by kernel_rfl) (by kernel_rfl) (by kernel_rfl) (by kernel_rfl) (fun _ _ _ h => h) (by rfl) (fun W hS => ?_) HS0 ?_
      · go_simp
      try simp only [Act.put, List.setIfInBounds_toArray, List.set_cons_zero, List.set_cons_succ]
      refine wpAnyL_take (i := 2) (some 40) (v := .pointer (some ⟨p, 6, none⟩)) rfl rfl (by kernel_rfl) (by kernel_rfl) (by kernel_rfl) (by kernel_rfl) (fun _ _ _ h => h) (by rfl) (fun W hS => ?_) HS0 ?_
      · go_simp
      try simp only [Act.put, List.setIfInBounds_toArray, List.set_cons_zero, List.set_cons_succ]
      refine wpAnyL_take (i := 3) (some 41) (v := .map (some mi)) rfl rfl (by kernel_rfl) (by kernel_rfl) (by kernel_rfl) (by kernel_rfl) (fun _ _ _ h => h) (by rfl) (fun W hS => ?_) HS0 ?_
      · have m0 := (hS.cell (p := ⟨p, 6, none⟩) hpl hpmi).trans q6
        go_simp
      try simp only [Act.put, List.setIfInBounds_toArray, List.set_cons_zero, List.set_cons_succ]
      refine wpAnyL_take (i := 4) (some 42) (v := .string ⟨key.toArray⟩) rfl rfl (by kernel_rfl) (by kernel_rfl) (by kernel_rfl) (by kernel_rfl) (fun _ _ _ h => h) (by rfl) (fun W hS => ?_) HS0 ?_
      · go_simp
      try simp only [Act.put, List.setIfInBounds_toArray, List.set_cons_zero, List.set_cons_succ]
      refine wpAnyL_one (j := 5) (by kernel_rfl) rfl (by rfl) (fun K hK => ?_)
      go_simp
      refine hK _ _ (fun _ => HS0) ?_
      clear hK K
      try simp only [Act.put, List.setIfInBounds_toArray, List.set_cons_zero, List.set_cons_succ]
      refine wpAnyL_one (j := 6) (by kernel_rfl) rfl (by rfl) (fun K hK => ?_)
      refine wp_putI _ (.tmp 41) (.tmp 42) (.tmp 43) rfl mi c.ni c.it.v rfl HM.out.drew (by omega) key (.agg #[.int .i64 k, .string ⟨s.toArray⟩, .slice aF fs.length cF, .slice aL ls.length cL, .int .i64 x]) rfl rfl hkey ?_
      intro wz hmz hkz
      refine hK _ _ (fun _ => HS0.trans hkz) ?_
      clear hK K
      try simp only [Act.put, List.setIfInBounds_toArray, List.set_cons_zero, List.set_cons_succ]
      refine wpAnyL_done (by kernel_rfl) ?_ _
      go_end0
      exact HEND.out wq wz (by rw [HIV.out]; exact HAQ.out) HKQ.out (HS0.trans hkz) hmz _
  · have b1 : (k != 1) = true := by simpa using hk
    have b3 : ((ls.length : Int) == 0) = false := by simpa using hl
    have b2 : ((fs.length : Int) == 0) = true := by simp [hf]
    clear hk hf hl
    cases iv with
    | true =>
      go_enter Tryz.func126, Tryz.ntmps126
      go_upto_region 3 with (fail)
      rw [HW1.out]
      have HB2 := Lib.hid (Below.refl W1.heap.size W1)
      obtain ⟨w2, hw2⟩ : ∃ w2, w2 = W1 := ⟨_, rfl⟩
      rw [← hw2] at HB2
      have hw2' := hw2
      go_upto_region 4 with (fail)
      subst hw2
      obtain ⟨wq, hwq, hAq, hxq, hkq⟩ := HFIN.out w2 true HB2.out (by rw [HIV.out]; rfl)
      rw [← hwq]
      obtain ⟨-, -, -, -, -, -, q6, -⟩ := hAq.cell
      simp only at q6
      rw [HP.out.1, HP.out.2] at q6
      have hpl : p < wq.heap.size := by rw [← HP.out.1]; exact hAq.lt.1
      have hpmi : p ≠ mi := by rw [← HP.out.1, ← HP.out.2]; exact hAq.ne.2
      have hBl := hxq.lt
      have hBmi : W.heap.size ≠ mi := fun e => by
        obtain ⟨es, cl, hm⟩ := hAq.hi.obj
        rw [show ({ c with inv := true } : Cl).mi = W.heap.size from HP.out.2.trans e.symm] at hm
        rw [hxq] at hm
        cases hm
      obtain ⟨x0, x1, x2, x3, x4⟩ := hxq.at
      have HM : Hid (MapI wq mi c.ni c.it.v) := Lib.hid (by rw [← HP.out.2]; exact hAq.hi)
      have HAQ := Lib.hid hAq
      have HKQ := Lib.hid hkq
      obtain ⟨B, hB⟩ : ∃ B, W.heap.size = B := ⟨_, rfl⟩
      rw [hB] at x0 x1 x2 x3 x4 hBl hBmi ⊢
      clear hwq hAq hxq hkq
      have HS0 : Keeps (fun k => k ≠ mi) wq wq.drew := (Keeps.refl _ wq).drew
      refine wp_region_L (S := fun W => Keeps (fun k => k ≠ mi) wq W) (f := 7) (by kernel_rfl) ?_
      refine wpAnyL_take (i := 0) (some 38) (v := .pointer (some ⟨p, 0, none⟩)) rfl rfl (by kernel_rfl) (by kernel_rfl) (by kernel_rfl) (by kernel_rfl) (fun _ _ _ h => h) (by rfl) (fun W hS => ?_) HS0 ?_
      · go_simp
      try simp only [Act.put, List.setIfInBounds_toArray, List.set_cons_zero, List.set_cons_succ]
      refine wpAnyL_take (i := 1) (some 39) (v := .pointer (some ⟨p, 0, none⟩)) rfl rfl (by kernel_rfl) (by kernel_rfl) (by kernel_rfl) (by kernel_rfl) (fun _ _ _ h => h) (by rfl) (fun W hS => ?_) HS0 ?_
      · go_simp
      try simp only [Act.put, List.setIfInBounds_toArray, List.set_cons_zero, List.set_cons_succ]
      refine wpAnyL_take (i := 2) (some 40) (v := .pointer (some ⟨p, 6, none⟩)) rfl rfl (by kernel_rfl) (by kernel_rfl) (by kernel_rfl) (by kernel_rfl) (fun _ _ _ h => h) (by rfl) (fun W hS => ?_) HS0 ?_
      · go_simp
      try simp only [Act.put, List.setIfInBounds_toArray, List.set_cons_zero, List.set_cons_succ]
      refine wpAnyL_take (i := 3) (some 41) (v := .map (some mi)) rfl rfl (by kernel_rfl) (by kernel_rfl) (by kernel_rfl) (by kernel_rfl) (fun _ _ _ h => h) (by rfl) (fun W hS => ?_) HS0 ?_
      · have m0 := (hS.cell (p := ⟨p, 6, none⟩) hpl hpmi).trans q6
        go_simp
      try simp only [Act.put, List.setIfInBounds_toArray, List.set_cons_zero, List.set_cons_succ]
      refine wpAnyL_take (i := 4) (some 42) (v := .string ⟨key.toArray⟩) rfl rfl (by kernel_rfl) (by kernel_rfl) (by kernel_rfl) (by kernel_rfl) (fun _ _ _ h => h) (by rfl) (fun W hS => ?_) HS0 ?_
      · go_simp
      try simp only [Act.put, List.setIfInBounds_toArray, List.set_cons_zero, List.set_cons_succ]
      refine wpAnyL_one (j := 5) (by kernel_rfl) rfl (by rfl) (fun K hK => ?_)
      go_simp
      refine hK _ _ (fun _ => HS0) ?_
      clear hK K
      try simp only [Act.put, List.setIfInBounds_toArray, List.set_cons_zero, List.set_cons_succ]
      refine wpAnyL_one (j := 6) (by kernel_rfl) rfl (by rfl) (fun K hK => ?_)
      refine wp_putI _ (.tmp 41) (.tmp 42) (.tmp 43) rfl mi c.ni c.it.v rfl HM.out.drew (by omega) key (.agg #[.int .i64 k, .string ⟨s.toArray⟩, .slice aF fs.length cF, .slice aL ls.length cL, .int .i64 x]) rfl rfl hkey ?_
      intro wz hmz hkz
      refine hK _ _ (fun _ => HS0.trans hkz) ?_
      clear hK K
      try simp only [Act.put, List.setIfInBounds_toArray, List.set_cons_zero, List.set_cons_succ]
      refine wpAnyL_done (by kernel_rfl) ?_ _
      go_end0
      exact HEND.out wq wz (by rw [HIV.out]; exact HAQ.out) HKQ.out (HS0.trans hkz) hmz _
    | false =>
      go_enter Tryz.func126, Tryz.ntmps126
      go_upto_region 3 with (fail)
      rw [HW1.out]
      go_wp2_with (go_at_call 161; refine (HMY.out _ (Below.refl _ _)).mono ?_; rintro e w2 ⟨rfl, hb2⟩; have HB2 := Lib.hid hb2; have q7b := (hb2.cell (p := ⟨p, 7, none⟩) hpl1).trans q7; have f7b := (hb2.frozen (p := ⟨p, 7, none⟩) hpl1).trans f7; clear hb2)
      obtain ⟨wq, hwq, hAq, hxq, hkq⟩ := HFIN.out w2 (!mb) HB2.out (by rw [HIV.out]; rfl)
      rw [← hwq]
      obtain ⟨-, -, -, -, -, -, q6, -⟩ := hAq.cell
      simp only at q6
      rw [HP.out.1, HP.out.2] at q6
      have hpl : p < wq.heap.size := by rw [← HP.out.1]; exact hAq.lt.1
      have hpmi : p ≠ mi := by rw [← HP.out.1, ← HP.out.2]; exact hAq.ne.2
      have hBl := hxq.lt
      have hBmi : W.heap.size ≠ mi := fun e => by
        obtain ⟨es, cl, hm⟩ := hAq.hi.obj
        rw [show ({ c with inv := (!mb) } : Cl).mi = W.heap.size from HP.out.2.trans e.symm] at hm
        rw [hxq] at hm
        cases hm
      obtain ⟨x0, x1, x2, x3, x4⟩ := hxq.at
      have HM : Hid (MapI wq mi c.ni c.it.v) := Lib.hid (by rw [← HP.out.2]; exact hAq.hi)
      have HAQ := Lib.hid hAq
      have HKQ := Lib.hid hkq
      obtain ⟨B, hB⟩ : ∃ B, W.heap.size = B := ⟨_, rfl⟩
      rw [hB] at x0 x1 x2 x3 x4 hBl hBmi ⊢
      clear hwq hAq hxq hkq
      have HS0 : Keeps (fun k => k ≠ mi) wq wq.drew := (Keeps.refl _ wq).drew
      refine wp_region_L (S := fun W => Keeps (fun k => k ≠ mi) wq W) (f := 7) (by kernel_rfl) ?_
      refine wpAnyL_take (i := 0) (some 38) (v := .pointer (some ⟨p, 0, none⟩)) rfl rfl (by kernel_rfl) (by kernel_rfl) (by kernel_rfl) (by kernel_rfl) (fun _ _ _ h => h) (by rfl) (fun W hS => ?_) HS0 ?_
      · go_simp
      try simp only [Act.put, List.setIfInBounds_toArray, List.set_cons_zero, List.set_cons_succ]
      refine wpAnyL_take (i := 1) (some 39) (v := .pointer (some ⟨p, 0, none⟩)) rfl rfl (by kernel_rfl) (by kernel_rfl) (by kernel_rfl) (by kernel_rfl) (fun _ _ _ h => h) (by rfl) (fun W hS => ?_) HS0 ?_
      · go_simp
      try simp only [Act.put, List.setIfInBounds_toArray, List.set_cons_zero, List.set_cons_succ]
      refine wpAnyL_take (i := 2) (some 40) (v := .pointer (some ⟨p, 6, none⟩)) rfl rfl (by kernel_rfl) (by kernel_rfl) (by kernel_rfl) (by kernel_rfl) (fun _ _ _ h => h) (by rfl) (fun W hS => ?_) HS0 ?_
      · go_simp
      try simp only [Act.put, List.setIfInBounds_toArray, List.set_cons_zero, List.set_cons_succ]
      refine wpAnyL_take (i := 3) (some 41) (v := .map (some mi)) rfl rfl (by kernel_rfl) (by kernel_rfl) (by kernel_rfl) (by kernel_rfl) (fun _ _ _ h => h) (by rfl) (fun W hS => ?_) HS0 ?_
      · have m0 := (hS.cell (p := ⟨p, 6, none⟩) hpl hpmi).trans q6
        go_simp
      try simp only [Act.put, List.setIfInBounds_toArray, List.set_cons_zero, List.set_cons_succ]
      refine wpAnyL_take (i := 4) (some 42) (v := .string ⟨key.toArray⟩) rfl rfl (by kernel_rfl) (by kernel_rfl) (by kernel_rfl) (by kernel_rfl) (fun _ _ _ h => h) (by rfl) (fun W hS => ?_) HS0 ?_
      · go_simp
      try simp only [Act.put, List.setIfInBounds_toArray, List.set_cons_zero, List.set_cons_succ]
      refine wpAnyL_one (j := 5) (by kernel_rfl) rfl (by rfl) (fun K hK => ?_)
      go_simp
      refine hK _ _ (fun _ => HS0) ?_
      clear hK K
      try simp only [Act.put, List.setIfInBounds_toArray, List.set_cons_zero, List.set_cons_succ]
      refine wpAnyL_one (j := 6) (by kernel_rfl) rfl (by rfl) (fun K hK => ?_)
      refine wp_putI _ (.tmp 41) (.tmp 42) (.tmp 43) rfl mi c.ni c.it.v rfl HM.out.drew (by omega) key (.agg #[.int .i64 k, .string ⟨s.toArray⟩, .slice aF fs.length cF, .slice aL ls.length cL, .int .i64 x]) rfl rfl hkey ?_
      intro wz hmz hkz
      refine hK _ _ (fun _ => HS0.trans hkz) ?_
      clear hK K
      try simp only [Act.put, List.setIfInBounds_toArray, List.set_cons_zero, List.set_cons_succ]
      refine wpAnyL_done (by kernel_rfl) ?_ _
      go_end0
      exact HEND.out wq wz (by rw [HIV.out]; exact HAQ.out) HKQ.out (HS0.trans hkz) hmz _
end Go.Proofs.YtokcbcjonbjkgaaGreatDoor
namespace Go.Proofs.YtokcbcjonbjkgaaGreatDoor
open Go.RowKit Go.Shelf
attribute [local go_sem] Oper.semAt_some
set_option linter.unusedVariables false
set_option linter.unusedSimpArgs false

theorem give_any (c : Cl) (w0 W : World) (key : List UInt8) (i : Li) (h : c.At w0 W) (hkey : key.length ≤ 1000000) (hi : i.Ok W) (hoff : i.Off c) (hsm : i.i.Sm) (hni : c.ni < 100000) :
    Calls Tryz.prog 126 #[.pointer (some ⟨c.p, 0, none⟩), .string ⟨key.toArray⟩, i.v] W (GiveOut w0 c (Ec.give ⟨c.it.i, c.inv⟩ key i.i) W) := by
  cases hn : Ec.noneB i.i with
  | true => exact give_none c w0 W key i h hkey hn
  | false => exact give_some c w0 W key i h hkey hi hoff hsm hni hn
theorem GiveOut.later {w0 : World} {c : Cl} {s : Ec.St} {W A : World} {e : Ending} {W' : World} (hb : Below A.heap.size A W) (h : GiveOut w0 c s W e W') : GiveOut w0 c s A e W' :=
  ⟨(Keeps.of_below hb fun _ h _ => h).trans h.1, h.2⟩
set_option maxRecDepth 100000 in
set_option maxHeartbeats 4000000 in
theorem giveText_c (c : Cl) (w0 W : World) (key s : List UInt8) (x : Int) (h : c.At w0 W) (hkey : key.length ≤ 1000000) (hs : s.length ≤ 1000000) (hni : c.ni < 100000) :
    Calls Tryz.prog 155 #[.pointer (some ⟨c.p, 0, none⟩), .string ⟨key.toArray⟩, .string ⟨s.toArray⟩, .int .i64 x] W (GiveOut w0 c (Ec.giveText ⟨c.it.i, c.inv⟩ key s x) W) := by
  have hg := give_any c w0 W key ⟨1, s, none, [], 0, none, [], 0, x⟩ h hkey ⟨by show s.length ≤ _; omega, fds_nil W, wds_nil W, fun _ => rfl, fun _ => rfl⟩ (fun g _ => ⟨fun h0 b off e => by simp at h0, fun h0 b off e => by simp at h0⟩) ⟨hs, by simp [Li.i], by simp [Li.i], by simp [Li.i], by simp [Li.i]⟩ hni
  simp only [Li.v, itv, List.length_nil] at hg
  have HG := Lib.hid hg
  clear hg h
  go_enter Tryz.func155, Tryz.ntmps155
  go_wp2_with (go_at_call 126; refine HG.out.mono ?_; rintro e w2 ⟨hk2, v, it, ni, inv, rfl, hrest⟩)
  go_end0
  exact ⟨hk2, _, _, _, _, rfl, hrest⟩

/-- the end of a command's function: a reply is stored where it is handed back from. -/
theorem DoOut.flat {c : Cl} {w0 W w5 : World} (k : Int) (s : List UInt8) (n : Int) (st : Ec.St) (it : ML) (ni : Nat) (inv : Bool) (h5 : ({ c with it := it, ni := ni, inv := inv, rs := W.heap.size :: c.rs } : Cl).At w0 w5)
    (hy : Rb w5 W.heap.size 0 [] 0 none 0 0) (hK : Keeps (fun k => ¬ c.own k) W w5) (hlo : w0.heap.size ≤ W.heap.size) (hk : -9223372036854775808 ≤ k ∧ k ≤ 9223372036854775807) (hn : -9223372036854775808 ≤ n ∧ n ≤ 9223372036854775807) (hs : s.length ≤ 1000000)
    (hit : ∀ k, it.i k = st.it k) (hinv : inv = st.inv) :
    DoOut w0 c (.mk k s n [], st) W (.returned (flatV k s n)) (stRb w5 W.heap.size k s n none 0 0) ∧ Rb (stRb w5 W.heap.size k s n none 0 0) W.heap.size k s n none 0 0 := by
  have hk5 : Keeps (fun k => k ≠ W.heap.size) w5 (stRb w5 W.heap.size k s n none 0 0) := ((((Keeps.refl _ w5).setCell (p := ⟨W.heap.size, 0, none⟩) (.inr fun h => h rfl) _).setCell (p := ⟨W.heap.size, 1, none⟩) (.inr fun h => h rfl) _).setCell (p := ⟨W.heap.size, 2, none⟩) (.inr fun h => h rfl) _).setCell (p := ⟨W.heap.size, 3, none⟩) (.inr fun h => h rfl) _
  have h6 := h5.apart (B := W.heap.size) (List.mem_cons_self ..) (h5.notown hy (by decide) (by decide) (by decide)) hlo hk5
  have h7 := h6.unreserve c.rs (fun g hg => List.mem_cons_of_mem _ hg)
  exact ⟨⟨hK.transIn hk5 (fun j hj _ e => by omega), _, it, ni, inv, rfl, h7, rep_flat _ k s n hk hn hs, hit, hinv⟩, hy.store _ _ _ _ _ _⟩

set_option maxRecDepth 100000 in
set_option maxHeartbeats 8000000 in
theorem set_c (c : Cl) (w0 W : World) (h : c.At w0 W) (hni : c.ni ≤ 1000) (a k v : List UInt8) (hws : c.ws = [a, k, v]) :
    Calls Tryz.prog 108 #[.pointer (some ⟨c.p, 0, none⟩)] W (DoOut w0 c (Ec.done, Ec.giveText ⟨c.it.i, c.inv⟩ k v 0) W) := by
  obtain ⟨p, hp⟩ : ∃ p, c.p = p := ⟨_, rfl⟩
  obtain ⟨W1, hW1⟩ : ∃ W1, W.alloc (.cells #[.int .i64 0, .string ⟨#[]⟩, .int .i64 0, .slice none 0 0] 26) = W1 := ⟨_, rfl⟩
  have hz : Rz W W1 := by rw [← hW1]; exact Rz.new W
  have hA1 : ({ c with rs := W.heap.size :: c.rs } : Cl).At w0 W1 := h.reserve hz.2 [W.heap.size] (fun g hg => by rw [List.mem_singleton.1 hg]; exact ⟨Nat.le_refl _, hz.1.lt⟩)
  have hlo : w0.heap.size ≤ W.heap.size := h.bel.size
  have hkl : k.length ≤ 1000000 := h.wsl.2 k (by rw [hws]; simp)
  have hvl : v.length ≤ 1000000 := h.wsl.2 v (by rw [hws]; simp)
  obtain ⟨bW, oW, haW, hbW, hcW⟩ := hA1.hW.get (by show 0 < c.ws.length; rw [hws]; simp)
  simp only at haW hcW
  rw [hws] at hcW
  have c1 : W1.cell? ⟨bW, oW + 1, none⟩ = some (.string ⟨k.toArray⟩) := hcW 1 (by simp)
  have c2 : W1.cell? ⟨bW, oW + 2, none⟩ = some (.string ⟨v.toArray⟩) := hcW 2 (by simp)
  obtain ⟨q0, -, -, -, -, -, -, -⟩ := hA1.cell
  simp only at q0
  rw [hp, haW, hws] at q0
  simp only [List.length_cons, List.length_nil, Nat.zero_add, Nat.reduceAdd] at q0
  have hpl : p < W1.heap.size := by rw [← hp]; exact hA1.lt.1
  have HGT : Hid (∀ W', Below W1.heap.size W1 W' → Calls Tryz.prog 155 #[.pointer (some ⟨p, 0, none⟩), .string ⟨k.toArray⟩, .string ⟨v.toArray⟩, .int .i64 0] W' (GiveOut w0 { c with rs := W.heap.size :: c.rs } (Ec.giveText ⟨c.it.i, c.inv⟩ k v 0) W')) :=
    Lib.hid (fun W' (hb : Below W1.heap.size W1 W') => by rw [← hp]; exact giveText_c { c with rs := W.heap.size :: c.rs } w0 W' k v 0 (hA1.later hb) hkl hvl (by show c.ni < 100000; omega))
  rw [hp]
  have HDN := Lib.hid (fun W => done_c W)
  have HWS := Lib.hid (And.intro hws (And.intro haW hp))
  have HW1 := Lib.hid hW1
  have HZ := Lib.hid hz
  have HA := Lib.hid hA1
  have HLO := Lib.hid hlo
  clear h hp hW1 hz hA1 hcW hws hlo haW
  go_enter Tryz.func108, Tryz.ntmps108
  go_upto_region 1 with (fail)
  rw [HW1.out]
  refine wp_region_L (S := fun W => W.cell? ⟨p, 0, none⟩ = some (.slice (some ⟨bW, oW, none⟩) 3 c.cW) ∧ W.cell? ⟨bW, oW + 1, none⟩ = some (.string ⟨k.toArray⟩) ∧ W.cell? ⟨bW, oW + 2, none⟩ = some (.string ⟨v.toArray⟩)) (f := 14) (by kernel_rfl) ?_
  have HS0 : W1.drew.cell? ⟨p, 0, none⟩ = some (.slice (some ⟨bW, oW, none⟩) 3 c.cW) ∧ W1.drew.cell? ⟨bW, oW + 1, none⟩ = some (.string ⟨k.toArray⟩) ∧ W1.drew.cell? ⟨bW, oW + 2, none⟩ = some (.string ⟨v.toArray⟩) := ⟨q0, c1, c2⟩
  refine wpAnyL_take (i := 0) (some 3) (v := .pointer (some ⟨p, 0, none⟩)) rfl rfl (by kernel_rfl) (by kernel_rfl) (by kernel_rfl) (by kernel_rfl) (fun _ _ _ h => h) (by rfl) (fun W hS => ?_) HS0 ?_
  · go_simp
  try simp only [Act.put, List.setIfInBounds_toArray, List.set_cons_zero, List.set_cons_succ]
  refine wpAnyL_take (i := 1) (some 4) (v := .pointer (some ⟨p, 0, none⟩)) rfl rfl (by kernel_rfl) (by kernel_rfl) (by kernel_rfl) (by kernel_rfl) (fun _ _ _ h => h) (by rfl) (fun W hS => ?_) HS0 ?_
  · go_simp
  try simp only [Act.put, List.setIfInBounds_toArray, List.set_cons_zero, List.set_cons_succ]
  refine wpAnyL_take (i := 2) (some 5) (v := .pointer (some ⟨p, 0, none⟩)) rfl rfl (by kernel_rfl) (by kernel_rfl) (by kernel_rfl) (by kernel_rfl) (fun _ _ _ h => h) (by rfl) (fun W hS => ?_) HS0 ?_
  · go_simp
  try simp only [Act.put, List.setIfInBounds_toArray, List.set_cons_zero, List.set_cons_succ]
  refine wpAnyL_take (i := 3) (some 6) (v := .pointer (some ⟨p, 0, none⟩)) rfl rfl (by kernel_rfl) (by kernel_rfl) (by kernel_rfl) (by kernel_rfl) (fun _ _ _ h => h) (by rfl) (fun W hS => ?_) HS0 ?_
  · go_simp
  try simp only [Act.put, List.setIfInBounds_toArray, List.set_cons_zero, List.set_cons_succ]
  refine wpAnyL_take (i := 4) (some 7) (v := .slice (some ⟨bW, oW, none⟩) 3 c.cW) rfl rfl (by kernel_rfl) (by kernel_rfl) (by kernel_rfl) (by kernel_rfl) (fun _ _ _ h => h) (by rfl) (fun W hS => ?_) HS0 ?_
  · have m0 := hS.1
    go_simp
  try simp only [Act.put, List.setIfInBounds_toArray, List.set_cons_zero, List.set_cons_succ]
  refine wpAnyL_take (i := 5) (some 8) (v := .pointer (some ⟨bW, oW + 1, none⟩)) rfl rfl (by kernel_rfl) (by kernel_rfl) (by kernel_rfl) (by kernel_rfl) (fun _ _ _ h => h) (by rfl) (fun W hS => ?_) HS0 ?_
  · go_simp
  try simp only [Act.put, List.setIfInBounds_toArray, List.set_cons_zero, List.set_cons_succ]
  refine wpAnyL_take (i := 6) (some 9) (v := .string ⟨k.toArray⟩) rfl rfl (by kernel_rfl) (by kernel_rfl) (by kernel_rfl) (by kernel_rfl) (fun _ _ _ h => h) (by rfl) (fun W hS => ?_) HS0 ?_
  · have m0 := hS.2.1
    go_simp
  try simp only [Act.put, List.setIfInBounds_toArray, List.set_cons_zero, List.set_cons_succ]
  refine wpAnyL_take (i := 7) (some 10) (v := .pointer (some ⟨p, 0, none⟩)) rfl rfl (by kernel_rfl) (by kernel_rfl) (by kernel_rfl) (by kernel_rfl) (fun _ _ _ h => h) (by rfl) (fun W hS => ?_) HS0 ?_
  · go_simp
  try simp only [Act.put, List.setIfInBounds_toArray, List.set_cons_zero, List.set_cons_succ]
  refine wpAnyL_take (i := 8) (some 11) (v := .pointer (some ⟨p, 0, none⟩)) rfl rfl (by kernel_rfl) (by kernel_rfl) (by kernel_rfl) (by kernel_rfl) (fun _ _ _ h => h) (by rfl) (fun W hS => ?_) HS0 ?_
  · go_simp
  try simp only [Act.put, List.setIfInBounds_toArray, List.set_cons_zero, List.set_cons_succ]
  refine wpAnyL_take (i := 9) (some 12) (v := .pointer (some ⟨p, 0, none⟩)) rfl rfl (by kernel_rfl) (by kernel_rfl) (by kernel_rfl) (by kernel_rfl) (fun _ _ _ h => h) (by rfl) (fun W hS => ?_) HS0 ?_
  · go_simp
  try simp only [Act.put, List.setIfInBounds_toArray, List.set_cons_zero, List.set_cons_succ]
  refine wpAnyL_take (i := 10) (some 13) (v := .slice (some ⟨bW, oW, none⟩) 3 c.cW) rfl rfl (by kernel_rfl) (by kernel_rfl) (by kernel_rfl) (by kernel_rfl) (fun _ _ _ h => h) (by rfl) (fun W hS => ?_) HS0 ?_
  · have m0 := hS.1
    go_simp
  try simp only [Act.put, List.setIfInBounds_toArray, List.set_cons_zero, List.set_cons_succ]
  refine wpAnyL_take (i := 11) (some 14) (v := .pointer (some ⟨bW, oW + 2, none⟩)) rfl rfl (by kernel_rfl) (by kernel_rfl) (by kernel_rfl) (by kernel_rfl) (fun _ _ _ h => h) (by rfl) (fun W hS => ?_) HS0 ?_
  · go_simp
  try simp only [Act.put, List.setIfInBounds_toArray, List.set_cons_zero, List.set_cons_succ]
  refine wpAnyL_take (i := 12) (some 15) (v := .string ⟨v.toArray⟩) rfl rfl (by kernel_rfl) (by kernel_rfl) (by kernel_rfl) (by kernel_rfl) (fun _ _ _ h => h) (by rfl) (fun W hS => ?_) HS0 ?_
  · have m0 := hS.2.2
    go_simp
  try simp only [Act.put, List.setIfInBounds_toArray, List.set_cons_zero, List.set_cons_succ]
  refine wpAnyL_one (j := 13) (by kernel_rfl) rfl (by rfl) (fun K hK => ?_)
  go_simp
  refine (HGT.out _ ((Below.refl _ W1).drew)).mono ?_
  rintro e w2 ⟨hk2, vv, it, ni, inv, rfl, hA2, hit, hinv, hni2⟩
  have hS2 : w2.cell? ⟨p, 0, none⟩ = some (.slice (some ⟨bW, oW, none⟩) 3 c.cW) ∧ w2.cell? ⟨bW, oW + 1, none⟩ = some (.string ⟨k.toArray⟩) ∧ w2.cell? ⟨bW, oW + 2, none⟩ = some (.string ⟨v.toArray⟩) := by
    obtain ⟨b', o', haW', -, hcW'⟩ := hA2.hW.get (by show 0 < c.ws.length; rw [HWS.out.1]; simp)
    have e0 : some (⟨bW, oW, none⟩ : Addr) = some ⟨b', o', none⟩ := HWS.out.2.1.symm.trans haW'
    injection e0 with e0
    injection e0 with e1 e2
    subst e1 e2
    have q := hA2.cell.1
    simp only at q hcW'
    rw [HWS.out.2.2, HWS.out.2.1, HWS.out.1] at q
    rw [HWS.out.1] at hcW'
    exact ⟨q, hcW' 1 (by simp), hcW' 2 (by simp)⟩
  refine hK _ _ (fun _ => hS2) ?_
  clear hK K hS2
  try simp only [Act.put, List.setIfInBounds_toArray, List.set_cons_zero, List.set_cons_succ]
  refine wpAnyL_done (by kernel_rfl) ?_ _
  have hR2 : Rb w2 W.heap.size 0 [] 0 none 0 0 := hk2.heap (HZ.out.1 : Rb W1.drew W.heap.size 0 [] 0 none 0 0) ((HA.out.later ((Below.refl _ W1).drew)).notown (HZ.out.1 : Rb W1.drew W.heap.size 0 [] 0 none 0 0) (by decide) (by decide) (by decide))
  have HR2 := Lib.hid hR2
  have HA2 := Lib.hid hA2
  have HK2 : Hid (Keeps (fun k => ¬ c.own k) W w2) := Lib.hid (((Keeps.of_below HZ.out.2 fun _ h _ => h : Keeps (fun k => ¬ c.own k) W W1).trans (Keeps.refl _ W1).drew).trans hk2)
  have HIT := Lib.hid (And.intro hit hinv)
  clear hk2 hA2 hit hinv hR2 HS0
  go_wp2_with (refine (HDN.out _).mono ?_; rintro e w3 ⟨rfl, hb3⟩; have hR3 := HR2.out.later hb3; have HR3 := Lib.hid hR3; have HA3 := Lib.hid (HA2.out.later hb3); have HK3 : Hid (Keeps (fun k => ¬ c.own k) W w3) := Lib.hid (HK2.out.trans (Keeps.of_below hb3 fun _ h _ => h)); obtain ⟨⟨z0, z1, z2, z3⟩, ⟨y0, y1, y2, y3⟩⟩ := hR3.at; clear hR3 hb3; simp only [flatV, rv])
  obtain ⟨e1, e2⟩ := DoOut.flat 1 [79, 75] 0 _ it ni inv HA3.out HR3.out HK3.out HLO.out (by decide) (by decide) (by decide) HIT.out.1 HIT.out.2
  exact bodyPost_ret (results_cell rfl rfl (loadRb e2)) rfl e1
end Go.Proofs.YtokcbcjonbjkgaaGreatDoor
namespace Go.Proofs.YtokcbcjonbjkgaaGreatDoor
open Go.RowKit Go.Shelf
attribute [local go_sem] Oper.semAt_some
set_option linter.unusedVariables false
set_option linter.unusedSimpArgs false

/-- what the first word's key tells, in any later world. -/
theorem Cl.At.lk {c : Cl} {w0 W : World} (h : c.At w0 W) (key : List UInt8) (hl : key.length ≤ 1000000) (W' : World) (hb : Below W.heap.size W W') :
    (Instr.lookup 82 (.map (some c.mi)) (.string ⟨key.toArray⟩) true).run Tryz.prog W' = .ok (.tuple #[((c.it key).getD Li.zero).v, .bool (c.it key).isSome]) W' := by
  have := (h.hi.later hb).lookOk key hl
  rw [(iv_get c.it key).1, (iv_get c.it key).2] at this
  exact this

set_option maxRecDepth 100000 in
set_option maxHeartbeats 8000000 in
theorem get_c (c : Cl) (w0 W : World) (h : c.At w0 W) (a key : List UInt8) (hws : c.ws = [a, key]) :
    Calls Tryz.prog 69 #[.pointer (some ⟨c.p, 0, none⟩)] W (DoOut w0 c (Ec.bulk ((c.it.i key).getD Ec.z0).s (c.it.i key).isSome, ⟨c.it.i, c.inv⟩) W) := by
  obtain ⟨p, hp⟩ : ∃ p, c.p = p := ⟨_, rfl⟩
  obtain ⟨mi, hmi⟩ : ∃ mi, c.mi = mi := ⟨_, rfl⟩
  obtain ⟨W1, hW1⟩ : ∃ W1, W.alloc (.cells #[.int .i64 0, .string ⟨#[]⟩, .int .i64 0, .slice none 0 0] 26) = W1 := ⟨_, rfl⟩
  have hz : Rz W W1 := by rw [← hW1]; exact Rz.new W
  have hA1 : ({ c with rs := W.heap.size :: c.rs } : Cl).At w0 W1 := h.reserve hz.2 [W.heap.size] (fun g hg => by rw [List.mem_singleton.1 hg]; exact ⟨Nat.le_refl _, hz.1.lt⟩)
  have hlo : w0.heap.size ≤ W.heap.size := h.bel.size
  have hkl : key.length ≤ 1000000 := h.wsl.2 key (by rw [hws]; simp)
  obtain ⟨bW, oW, haW, hbW, hcW⟩ := hA1.hW.get (by show 0 < c.ws.length; rw [hws]; simp)
  simp only at haW hcW
  rw [hws] at hcW
  have c1 : W1.cell? ⟨bW, oW + 1, none⟩ = some (.string ⟨key.toArray⟩) := hcW 1 (by simp)
  obtain ⟨q0, -, -, -, -, -, q6, -⟩ := hA1.cell
  simp only at q0 q6
  rw [hp, haW, hws] at q0
  rw [hp, hmi] at q6
  simp only [List.length_cons, List.length_nil, Nat.zero_add, Nat.reduceAdd] at q0
  have hpl : p < W1.heap.size := by rw [← hp]; exact hA1.lt.1
  obtain ⟨oi, hoi⟩ : ∃ oi, c.it key = oi := ⟨_, rfl⟩
  obtain ⟨⟨k, s, aF, fs, cF, aL, ls, cL, x⟩, hi0⟩ : ∃ q, oi.getD Li.zero = q := ⟨_, rfl⟩
  obtain ⟨hs, hhs⟩ : ∃ hs, oi.isSome = hs := ⟨_, rfl⟩
  have HLK : Hid (∀ W', Below W1.heap.size W1 W' → (Instr.lookup 82 (.map (some mi)) (.string ⟨key.toArray⟩) true).run Tryz.prog W' = .ok (.tuple #[.agg #[.int .i64 k, .string ⟨s.toArray⟩, .slice aF fs.length cF, .slice aL ls.length cL, .int .i64 x], .bool hs]) W') :=
    Lib.hid (fun W' (hb : Below W1.heap.size W1 W') => by
      have := hA1.lk key hkl W' hb
      simp only at this
      rw [hmi, hoi, hi0, hhs] at this
      exact this)
  have hsl : s.length ≤ 1000000 := by
    have := (h.ki.get key).2.1
    rw [hoi, hi0] at this
    exact this
  have hgoal : Ec.bulk ((c.it.i key).getD Ec.z0).s (c.it.i key).isSome = .mk (if hs then 4 else 5) (if hs then s else []) 0 [] := by
    unfold ML.i
    rw [hoi, ← hhs]
    cases oi with
    | none => rfl
    | some i =>
      have : i = ⟨k, s, aF, fs, cF, aL, ls, cL, x⟩ := hi0
      subst this
      rfl
  obtain ⟨rk, hrk⟩ : ∃ rk : Int, (if hs then 4 else 5) = rk := ⟨_, rfl⟩
  obtain ⟨rt, hrt⟩ : ∃ rt : List UInt8, (if hs then s else []) = rt := ⟨_, rfl⟩
  rw [hp, hgoal, hrk, hrt]
  have HBK : Hid (∀ W, Calls Tryz.prog 124 #[.string ⟨s.toArray⟩, .bool hs] W (FlatOut rk rt 0 W)) := Lib.hid (fun W => by rw [← hrk, ← hrt]; exact bulk_c s hs W)
  have HRB : Hid ((-9223372036854775808 ≤ rk ∧ rk ≤ 9223372036854775807) ∧ rt.length ≤ 1000000) := Lib.hid (by rw [← hrk, ← hrt]; cases hs <;> simp <;> omega)
  have HW1 := Lib.hid hW1
  have HZ := Lib.hid hz
  have HA := Lib.hid hA1
  have HLO := Lib.hid hlo
  have HSL := Lib.hid hsl
  clear h hp hW1 hz hA1 hcW hws hlo haW hmi hoi hi0 hhs hgoal hsl hrk hrt
  go_enter Tryz.func69, Tryz.ntmps69
  go_upto_region 1 with (fail)
  rw [HW1.out]
  have HS0 : Below W1.heap.size W1 W1.drew := (Below.refl _ W1).drew
  refine wp_region_L (S := fun W => Below W1.heap.size W1 W) (f := 17) (by kernel_rfl) ?_
  refine wpAnyL_take (i := 0) (some 6) (v := .pointer (some ⟨p, 0, none⟩)) rfl rfl (by kernel_rfl) (by kernel_rfl) (by kernel_rfl) (by kernel_rfl) (fun _ _ _ h => h) (by rfl) (fun W hS => ?_) HS0 ?_
  · go_simp
  try simp only [Act.put, List.setIfInBounds_toArray, List.set_cons_zero, List.set_cons_succ]
  refine wpAnyL_take (i := 1) (some 7) (v := .pointer (some ⟨p, 0, none⟩)) rfl rfl (by kernel_rfl) (by kernel_rfl) (by kernel_rfl) (by kernel_rfl) (fun _ _ _ h => h) (by rfl) (fun W hS => ?_) HS0 ?_
  · go_simp
  try simp only [Act.put, List.setIfInBounds_toArray, List.set_cons_zero, List.set_cons_succ]
  refine wpAnyL_take (i := 2) (some 8) (v := .pointer (some ⟨p, 6, none⟩)) rfl rfl (by kernel_rfl) (by kernel_rfl) (by kernel_rfl) (by kernel_rfl) (fun _ _ _ h => h) (by rfl) (fun W hS => ?_) HS0 ?_
  · go_simp
  try simp only [Act.put, List.setIfInBounds_toArray, List.set_cons_zero, List.set_cons_succ]
  refine wpAnyL_take (i := 3) (some 9) (v := .map (some mi)) rfl rfl (by kernel_rfl) (by kernel_rfl) (by kernel_rfl) (by kernel_rfl) (fun _ _ _ h => h) (by rfl) (fun W hS => ?_) HS0 ?_
  · have m0 := (hS.cell (p := ⟨p, 6, none⟩) hpl).trans q6
    go_simp
  try simp only [Act.put, List.setIfInBounds_toArray, List.set_cons_zero, List.set_cons_succ]
  refine wpAnyL_take (i := 4) (some 10) (v := .pointer (some ⟨p, 0, none⟩)) rfl rfl (by kernel_rfl) (by kernel_rfl) (by kernel_rfl) (by kernel_rfl) (fun _ _ _ h => h) (by rfl) (fun W hS => ?_) HS0 ?_
  · go_simp
  try simp only [Act.put, List.setIfInBounds_toArray, List.set_cons_zero, List.set_cons_succ]
  refine wpAnyL_take (i := 5) (some 11) (v := .pointer (some ⟨p, 0, none⟩)) rfl rfl (by kernel_rfl) (by kernel_rfl) (by kernel_rfl) (by kernel_rfl) (fun _ _ _ h => h) (by rfl) (fun W hS => ?_) HS0 ?_
  · go_simp
  try simp only [Act.put, List.setIfInBounds_toArray, List.set_cons_zero, List.set_cons_succ]
  refine wpAnyL_take (i := 6) (some 12) (v := .pointer (some ⟨p, 0, none⟩)) rfl rfl (by kernel_rfl) (by kernel_rfl) (by kernel_rfl) (by kernel_rfl) (fun _ _ _ h => h) (by rfl) (fun W hS => ?_) HS0 ?_
  · go_simp
  try simp only [Act.put, List.setIfInBounds_toArray, List.set_cons_zero, List.set_cons_succ]
  refine wpAnyL_take (i := 7) (some 13) (v := .slice (some ⟨bW, oW, none⟩) 2 c.cW) rfl rfl (by kernel_rfl) (by kernel_rfl) (by kernel_rfl) (by kernel_rfl) (fun _ _ _ h => h) (by rfl) (fun W hS => ?_) HS0 ?_
  · have m0 := (hS.cell (p := ⟨p, 0, none⟩) hpl).trans q0
    go_simp
  try simp only [Act.put, List.setIfInBounds_toArray, List.set_cons_zero, List.set_cons_succ]
  refine wpAnyL_take (i := 8) (some 14) (v := .pointer (some ⟨bW, oW + 1, none⟩)) rfl rfl (by kernel_rfl) (by kernel_rfl) (by kernel_rfl) (by kernel_rfl) (fun _ _ _ h => h) (by rfl) (fun W hS => ?_) HS0 ?_
  · go_simp
  try simp only [Act.put, List.setIfInBounds_toArray, List.set_cons_zero, List.set_cons_succ]
  refine wpAnyL_take (i := 9) (some 15) (v := .string ⟨key.toArray⟩) rfl rfl (by kernel_rfl) (by kernel_rfl) (by kernel_rfl) (by kernel_rfl) (fun _ _ _ h => h) (by rfl) (fun W hS => ?_) HS0 ?_
  · have m0 := (hS.cell (p := ⟨bW, oW + 1, none⟩) hbW).trans c1
    go_simp
  try simp only [Act.put, List.setIfInBounds_toArray, List.set_cons_zero, List.set_cons_succ]
  refine wpAnyL_take (i := 10) (some 16) (v := .tuple #[.agg #[.int .i64 k, .string ⟨s.toArray⟩, .slice aF fs.length cF, .slice aL ls.length cL, .int .i64 x], .bool hs]) rfl rfl (by kernel_rfl) (by kernel_rfl) (by kernel_rfl) (by kernel_rfl) (fun _ _ _ h => h) (by rfl) (fun W hS => ?_) HS0 ?_
  · have m0 := HLK.out W hS
    go_simp
  try simp only [Act.put, List.setIfInBounds_toArray, List.set_cons_zero, List.set_cons_succ]
  refine wpAnyL_take (i := 11) (some 5) (v := .tuple #[.agg #[.int .i64 k, .string ⟨s.toArray⟩, .slice aF fs.length cF, .slice aL ls.length cL, .int .i64 x], .bool hs]) rfl rfl (by kernel_rfl) (by kernel_rfl) (by kernel_rfl) (by kernel_rfl) (fun _ _ _ h => h) (by rfl) (fun W hS => ?_) HS0 ?_
  · go_simp
  try simp only [Act.put, List.setIfInBounds_toArray, List.set_cons_zero, List.set_cons_succ]
  refine wpAnyL_take (i := 12) (some 17) (v := .agg #[.int .i64 k, .string ⟨s.toArray⟩, .slice aF fs.length cF, .slice aL ls.length cL, .int .i64 x]) rfl rfl (by kernel_rfl) (by kernel_rfl) (by kernel_rfl) (by kernel_rfl) (fun _ _ _ h => h) (by rfl) (fun W hS => ?_) HS0 ?_
  · go_simp
  try simp only [Act.put, List.setIfInBounds_toArray, List.set_cons_zero, List.set_cons_succ]
  refine wpAnyL_take (i := 13) (some 18) (v := .bool (hs)) rfl rfl (by kernel_rfl) (by kernel_rfl) (by kernel_rfl) (by kernel_rfl) (fun _ _ _ h => h) (by rfl) (fun W hS => ?_) HS0 ?_
  · go_simp
  try simp only [Act.put, List.setIfInBounds_toArray, List.set_cons_zero, List.set_cons_succ]
  refine wpAnyL_one (j := 14) (by kernel_rfl) rfl (by rfl) (fun K hK => ?_)
  go_simp
  refine hK _ _ (fun _ => HS0.alloc HS0.size _) ?_
  clear hK K
  try simp only [Act.put, List.setIfInBounds_toArray, List.set_cons_zero, List.set_cons_succ]
  refine wpAnyL_one (j := 15) (by kernel_rfl) rfl (by rfl) (fun K hK => ?_)
  obtain ⟨W2, hW2⟩ : ∃ W2, (W1.alloc (.cells #[.int .i64 0, .string ⟨#[]⟩, .slice none 0 0, .slice none 0 0, .int .i64 0] 38)).drew = W2 := ⟨_, rfl⟩
  have hX2 : ItBox W2 W1.heap.size 0 [] none 0 0 none 0 0 0 := by rw [← hW2]; exact ItBox.new W1 0 [] none 0 0 none 0 0 0
  have hb2 : Below W1.heap.size W1 W2 := by rw [← hW2]; exact ((Below.refl _ _).alloc (Nat.le_refl _) _).drew
  obtain ⟨y0, y1, y2, y3, y4⟩ := hX2.free
  obtain ⟨x0, x1, x2, x3, x4⟩ := hX2.at
  rw [hW2]
  obtain ⟨W3, hW3⟩ : ∃ W3, stIt W2 W1.heap.size k s aF fs.length cF aL ls.length cL x = W3 := ⟨_, rfl⟩
  have hX3 : ItBox W3 W1.heap.size k s aF fs.length cF aL ls.length cL x := by rw [← hW3]; exact hX2.store _ _ _ _ _ _ _ _ _
  have hb3 : Below W1.heap.size W1 W3 := by rw [← hW3]; exact ((Keeps.of_below hb2 fun _ h _ => h : Keeps (fun _ => True) W1 W2).stIt (.inl (Nat.le_refl _)) k s aF fs.length cF aL ls.length cL x).below (Nat.le_refl _) fun _ _ => trivial
  go_simp
  unfold stIt at hW3
  rw [hW3]
  refine hK _ _ (fun _ => hb3) ?_
  clear hK K y0 y1 y2 y3 y4 x0 x1 x2 x3 x4 hX2 hb2 hW2 hW3
  try simp only [Act.put, List.setIfInBounds_toArray, List.set_cons_zero, List.set_cons_succ]
  refine wpAnyL_take (i := 16) (some 4) (v := .bool hs) rfl rfl (by kernel_rfl) (by kernel_rfl) (by kernel_rfl) (by kernel_rfl) (fun _ _ _ h => h) (by rfl) (fun W hS => ?_) hb3 ?_
  · go_simp
  try simp only [Act.put, List.setIfInBounds_toArray, List.set_cons_zero, List.set_cons_succ]
  refine wpAnyL_done (by kernel_rfl) ?_ _
  obtain ⟨x0, x1, x2, x3, x4⟩ := hX3.at
  have hR3 := HZ.out.1.later hb3
  have HR3 := Lib.hid hR3
  have HA3 := Lib.hid (HA.out.later hb3)
  have HK3 : Hid (Keeps (fun k => ¬ c.own k) W W3) := Lib.hid ((Keeps.of_below HZ.out.2 fun _ h _ => h : Keeps (fun k => ¬ c.own k) W W1).trans (Keeps.of_below hb3 fun _ h _ => h))
  have HX3 := Lib.hid hX3
  clear hR3 hb3 hX3 HS0
  go_wp2_with (refine (HBK.out _).mono ?_; rintro e w4 ⟨rfl, hb4⟩; have hR4 := HR3.out.later hb4; have HR4 := Lib.hid hR4; have HA4 := Lib.hid (HA3.out.later hb4); have HK4 : Hid (Keeps (fun k => ¬ c.own k) W w4) := Lib.hid (HK3.out.trans (Keeps.of_below hb4 fun _ h _ => h)); obtain ⟨⟨z0, z1, z2, z3⟩, ⟨y0, y1, y2, y3⟩⟩ := hR4.at; clear hR4 hb4; simp only [flatV, rv])
  obtain ⟨e1, e2⟩ := DoOut.flat (c := c) rk rt 0 ⟨c.it.i, c.inv⟩ c.it c.ni c.inv HA4.out HR4.out HK4.out HLO.out HRB.out.1 (by decide) HRB.out.2 (fun _ => rfl) rfl
  exact bodyPost_ret (results_cell rfl rfl (loadRb e2)) rfl e1
end Go.Proofs.YtokcbcjonbjkgaaGreatDoor
namespace Go.Proofs.YtokcbcjonbjkgaaGreatDoor
open Go.RowKit Go.Shelf
attribute [local go_sem] Oper.semAt_some
set_option linter.unusedVariables false
set_option linter.unusedSimpArgs false

namespace Ec
def ttl (now : Int) (st : St) (k : Bs) : Rp.R := match st.it k with
  | none => num (-2)
  | some i => if i.exp = 0 then num (-1) else num (i.exp - now)
end Ec
set_option maxRecDepth 100000 in
set_option maxHeartbeats 8000000 in
theorem ttl_c (c : Cl) (w0 W : World) (h : c.At w0 W) (a key : List UInt8) (hws : c.ws = [a, key]) (hxb : ∀ i, c.it key = some i → 0 ≤ i.x ∧ i.x ≤ 4611686018427387904) (hnb : 0 ≤ c.now ∧ c.now ≤ 4611686018427387904) :
    Calls Tryz.prog 118 #[.pointer (some ⟨c.p, 0, none⟩)] W (DoOut w0 c (Ec.ttl c.now ⟨c.it.i, c.inv⟩ key, ⟨c.it.i, c.inv⟩) W) := by
  obtain ⟨p, hp⟩ : ∃ p, c.p = p := ⟨_, rfl⟩
  obtain ⟨mi, hmi⟩ : ∃ mi, c.mi = mi := ⟨_, rfl⟩
  obtain ⟨W1, hW1⟩ : ∃ W1, W.alloc (.cells #[.int .i64 0, .string ⟨#[]⟩, .int .i64 0, .slice none 0 0] 26) = W1 := ⟨_, rfl⟩
  have hz : Rz W W1 := by rw [← hW1]; exact Rz.new W
  have hA1 : ({ c with rs := W.heap.size :: c.rs } : Cl).At w0 W1 := h.reserve hz.2 [W.heap.size] (fun g hg => by rw [List.mem_singleton.1 hg]; exact ⟨Nat.le_refl _, hz.1.lt⟩)
  have hlo : w0.heap.size ≤ W.heap.size := h.bel.size
  have hkl : key.length ≤ 1000000 := h.wsl.2 key (by rw [hws]; simp)
  obtain ⟨bW, oW, haW, hbW, hcW⟩ := hA1.hW.get (by show 0 < c.ws.length; rw [hws]; simp)
  simp only at haW hcW
  rw [hws] at hcW
  have c1 : W1.cell? ⟨bW, oW + 1, none⟩ = some (.string ⟨key.toArray⟩) := hcW 1 (by simp)
  obtain ⟨q0, q1, -, -, -, -, q6, -⟩ := hA1.cell
  simp only at q0 q1 q6
  obtain ⟨now, hnow⟩ : ∃ now, c.now = now := ⟨_, rfl⟩
  rw [hnow] at q1 hnb
  rw [hp] at q1
  rw [hp, haW, hws] at q0
  rw [hp, hmi] at q6
  simp only [List.length_cons, List.length_nil, Nat.zero_add, Nat.reduceAdd] at q0
  have hpl : p < W1.heap.size := by rw [← hp]; exact hA1.lt.1
  obtain ⟨oi, hoi⟩ : ∃ oi, c.it key = oi := ⟨_, rfl⟩
  obtain ⟨⟨k, s, aF, fs, cF, aL, ls, cL, x⟩, hi0⟩ : ∃ q, oi.getD Li.zero = q := ⟨_, rfl⟩
  obtain ⟨hs, hhs⟩ : ∃ hs, oi.isSome = hs := ⟨_, rfl⟩
  have HLK : Hid (∀ W', Below W1.heap.size W1 W' → (Instr.lookup 82 (.map (some mi)) (.string ⟨key.toArray⟩) true).run Tryz.prog W' = .ok (.tuple #[.agg #[.int .i64 k, .string ⟨s.toArray⟩, .slice aF fs.length cF, .slice aL ls.length cL, .int .i64 x], .bool hs]) W') :=
    Lib.hid (fun W' (hb : Below W1.heap.size W1 W') => by
      have := hA1.lk key hkl W' hb
      simp only at this
      rw [hmi, hoi, hi0, hhs] at this
      exact this)
  have hsl : s.length ≤ 1000000 := by
    have := (h.ki.get key).2.1
    rw [hoi, hi0] at this
    exact this
  have hx2 : 0 ≤ x ∧ x ≤ 4611686018427387904 := by
    cases oi with
    | none => have e : Li.zero = ⟨k, s, aF, fs, cF, aL, ls, cL, x⟩ := hi0; have : x = 0 := by unfold Li.zero at e; injection e with _ _ _ _ _ _ _ _ e; exact e.symm
              subst this; decide
    | some i => have e : i = ⟨k, s, aF, fs, cF, aL, ls, cL, x⟩ := hi0; have := hxb i hoi; rw [e] at this; exact this
  have hgoal : Ec.ttl now ⟨c.it.i, c.inv⟩ key = if hs then (if x = 0 then .mk 3 [] (-1) [] else .mk 3 [] (x - now) []) else .mk 3 [] (-2) [] := by
    unfold Ec.ttl ML.i
    simp only
    rw [hoi, ← hhs]
    cases oi with
    | none => rfl
    | some i =>
      have : i = ⟨k, s, aF, fs, cF, aL, ls, cL, x⟩ := hi0
      subst this
      rfl
  rw [hp, hnow, hgoal]
  have HNM := Lib.hid (fun n W => number_c n W)
  have HW1 := Lib.hid hW1
  have HZ := Lib.hid hz
  have HA := Lib.hid hA1
  have HLO := Lib.hid hlo
  have HXB := Lib.hid (And.intro hx2 hnb)
  clear h hp hW1 hz hA1 hcW hws hlo haW hmi hoi hi0 hhs hgoal hsl hxb hnb hx2 hnow
  go_enter Tryz.func118, Tryz.ntmps118
  go_upto_region 1 with (fail)
  rw [HW1.out]
  have HS0 : Below W1.heap.size W1 W1.drew := (Below.refl _ W1).drew
  refine wp_region_L (S := fun W => Below W1.heap.size W1 W) (f := 17) (by kernel_rfl) ?_
  refine wpAnyL_take (i := 0) (some 6) (v := .pointer (some ⟨p, 0, none⟩)) rfl rfl (by kernel_rfl) (by kernel_rfl) (by kernel_rfl) (by kernel_rfl) (fun _ _ _ h => h) (by rfl) (fun W hS => ?_) HS0 ?_
  · go_simp
  try simp only [Act.put, List.setIfInBounds_toArray, List.set_cons_zero, List.set_cons_succ]
  refine wpAnyL_take (i := 1) (some 7) (v := .pointer (some ⟨p, 0, none⟩)) rfl rfl (by kernel_rfl) (by kernel_rfl) (by kernel_rfl) (by kernel_rfl) (fun _ _ _ h => h) (by rfl) (fun W hS => ?_) HS0 ?_
  · go_simp
  try simp only [Act.put, List.setIfInBounds_toArray, List.set_cons_zero, List.set_cons_succ]
  refine wpAnyL_take (i := 2) (some 8) (v := .pointer (some ⟨p, 6, none⟩)) rfl rfl (by kernel_rfl) (by kernel_rfl) (by kernel_rfl) (by kernel_rfl) (fun _ _ _ h => h) (by rfl) (fun W hS => ?_) HS0 ?_
  · go_simp
  try simp only [Act.put, List.setIfInBounds_toArray, List.set_cons_zero, List.set_cons_succ]
  refine wpAnyL_take (i := 3) (some 9) (v := .map (some mi)) rfl rfl (by kernel_rfl) (by kernel_rfl) (by kernel_rfl) (by kernel_rfl) (fun _ _ _ h => h) (by rfl) (fun W hS => ?_) HS0 ?_
  · have m0 := (hS.cell (p := ⟨p, 6, none⟩) hpl).trans q6
    go_simp
  try simp only [Act.put, List.setIfInBounds_toArray, List.set_cons_zero, List.set_cons_succ]
  refine wpAnyL_take (i := 4) (some 10) (v := .pointer (some ⟨p, 0, none⟩)) rfl rfl (by kernel_rfl) (by kernel_rfl) (by kernel_rfl) (by kernel_rfl) (fun _ _ _ h => h) (by rfl) (fun W hS => ?_) HS0 ?_
  · go_simp
  try simp only [Act.put, List.setIfInBounds_toArray, List.set_cons_zero, List.set_cons_succ]
  refine wpAnyL_take (i := 5) (some 11) (v := .pointer (some ⟨p, 0, none⟩)) rfl rfl (by kernel_rfl) (by kernel_rfl) (by kernel_rfl) (by kernel_rfl) (fun _ _ _ h => h) (by rfl) (fun W hS => ?_) HS0 ?_
  · go_simp
  try simp only [Act.put, List.setIfInBounds_toArray, List.set_cons_zero, List.set_cons_succ]
  refine wpAnyL_take (i := 6) (some 12) (v := .pointer (some ⟨p, 0, none⟩)) rfl rfl (by kernel_rfl) (by kernel_rfl) (by kernel_rfl) (by kernel_rfl) (fun _ _ _ h => h) (by rfl) (fun W hS => ?_) HS0 ?_
  · go_simp
  try simp only [Act.put, List.setIfInBounds_toArray, List.set_cons_zero, List.set_cons_succ]
  refine wpAnyL_take (i := 7) (some 13) (v := .slice (some ⟨bW, oW, none⟩) 2 c.cW) rfl rfl (by kernel_rfl) (by kernel_rfl) (by kernel_rfl) (by kernel_rfl) (fun _ _ _ h => h) (by rfl) (fun W hS => ?_) HS0 ?_
  · have m0 := (hS.cell (p := ⟨p, 0, none⟩) hpl).trans q0
    go_simp
  try simp only [Act.put, List.setIfInBounds_toArray, List.set_cons_zero, List.set_cons_succ]
  refine wpAnyL_take (i := 8) (some 14) (v := .pointer (some ⟨bW, oW + 1, none⟩)) rfl rfl (by kernel_rfl) (by kernel_rfl) (by kernel_rfl) (by kernel_rfl) (fun _ _ _ h => h) (by rfl) (fun W hS => ?_) HS0 ?_
  · go_simp
  try simp only [Act.put, List.setIfInBounds_toArray, List.set_cons_zero, List.set_cons_succ]
  refine wpAnyL_take (i := 9) (some 15) (v := .string ⟨key.toArray⟩) rfl rfl (by kernel_rfl) (by kernel_rfl) (by kernel_rfl) (by kernel_rfl) (fun _ _ _ h => h) (by rfl) (fun W hS => ?_) HS0 ?_
  · have m0 := (hS.cell (p := ⟨bW, oW + 1, none⟩) hbW).trans c1
    go_simp
  try simp only [Act.put, List.setIfInBounds_toArray, List.set_cons_zero, List.set_cons_succ]
  refine wpAnyL_take (i := 10) (some 16) (v := .tuple #[.agg #[.int .i64 k, .string ⟨s.toArray⟩, .slice aF fs.length cF, .slice aL ls.length cL, .int .i64 x], .bool hs]) rfl rfl (by kernel_rfl) (by kernel_rfl) (by kernel_rfl) (by kernel_rfl) (fun _ _ _ h => h) (by rfl) (fun W hS => ?_) HS0 ?_
  · have m0 := HLK.out W hS
    go_simp
  try simp only [Act.put, List.setIfInBounds_toArray, List.set_cons_zero, List.set_cons_succ]
  refine wpAnyL_take (i := 11) (some 5) (v := .tuple #[.agg #[.int .i64 k, .string ⟨s.toArray⟩, .slice aF fs.length cF, .slice aL ls.length cL, .int .i64 x], .bool hs]) rfl rfl (by kernel_rfl) (by kernel_rfl) (by kernel_rfl) (by kernel_rfl) (fun _ _ _ h => h) (by rfl) (fun W hS => ?_) HS0 ?_
  · go_simp
  try simp only [Act.put, List.setIfInBounds_toArray, List.set_cons_zero, List.set_cons_succ]
  refine wpAnyL_take (i := 12) (some 17) (v := .agg #[.int .i64 k, .string ⟨s.toArray⟩, .slice aF fs.length cF, .slice aL ls.length cL, .int .i64 x]) rfl rfl (by kernel_rfl) (by kernel_rfl) (by kernel_rfl) (by kernel_rfl) (fun _ _ _ h => h) (by rfl) (fun W hS => ?_) HS0 ?_
  · go_simp
  try simp only [Act.put, List.setIfInBounds_toArray, List.set_cons_zero, List.set_cons_succ]
  refine wpAnyL_take (i := 13) (some 18) (v := .bool (hs)) rfl rfl (by kernel_rfl) (by kernel_rfl) (by kernel_rfl) (by kernel_rfl) (fun _ _ _ h => h) (by rfl) (fun W hS => ?_) HS0 ?_
  · go_simp
  try simp only [Act.put, List.setIfInBounds_toArray, List.set_cons_zero, List.set_cons_succ]
  refine wpAnyL_one (j := 14) (by kernel_rfl) rfl (by rfl) (fun K hK => ?_)
  go_simp
  refine hK _ _ (fun _ => HS0.alloc HS0.size _) ?_
  clear hK K
  try simp only [Act.put, List.setIfInBounds_toArray, List.set_cons_zero, List.set_cons_succ]
  refine wpAnyL_one (j := 15) (by kernel_rfl) rfl (by rfl) (fun K hK => ?_)
  obtain ⟨W2, hW2⟩ : ∃ W2, (W1.alloc (.cells #[.int .i64 0, .string ⟨#[]⟩, .slice none 0 0, .slice none 0 0, .int .i64 0] 38)).drew = W2 := ⟨_, rfl⟩
  have hX2 : ItBox W2 W1.heap.size 0 [] none 0 0 none 0 0 0 := by rw [← hW2]; exact ItBox.new W1 0 [] none 0 0 none 0 0 0
  have hb2 : Below W1.heap.size W1 W2 := by rw [← hW2]; exact ((Below.refl _ _).alloc (Nat.le_refl _) _).drew
  obtain ⟨y0, y1, y2, y3, y4⟩ := hX2.free
  obtain ⟨x0, x1, x2, x3, x4⟩ := hX2.at
  rw [hW2]
  obtain ⟨W3, hW3⟩ : ∃ W3, stIt W2 W1.heap.size k s aF fs.length cF aL ls.length cL x = W3 := ⟨_, rfl⟩
  have hX3 : ItBox W3 W1.heap.size k s aF fs.length cF aL ls.length cL x := by rw [← hW3]; exact hX2.store _ _ _ _ _ _ _ _ _
  have hb3 : Below W1.heap.size W1 W3 := by rw [← hW3]; exact ((Keeps.of_below hb2 fun _ h _ => h : Keeps (fun _ => True) W1 W2).stIt (.inl (Nat.le_refl _)) k s aF fs.length cF aL ls.length cL x).below (Nat.le_refl _) fun _ _ => trivial
  go_simp
  unfold stIt at hW3
  rw [hW3]
  refine hK _ _ (fun _ => hb3) ?_
  clear hK K y0 y1 y2 y3 y4 x0 x1 x2 x3 x4 hX2 hb2 hW2 hW3
  try simp only [Act.put, List.setIfInBounds_toArray, List.set_cons_zero, List.set_cons_succ]
  refine wpAnyL_take (i := 16) (some 4) (v := .bool hs) rfl rfl (by kernel_rfl) (by kernel_rfl) (by kernel_rfl) (by kernel_rfl) (fun _ _ _ h => h) (by rfl) (fun W hS => ?_) hb3 ?_
  · go_simp
  try simp only [Act.put, List.setIfInBounds_toArray, List.set_cons_zero, List.set_cons_succ]
  refine wpAnyL_done (by kernel_rfl) ?_ _
  obtain ⟨x0, x1, x2, x3, x4⟩ := hX3.at
  have hR3 := HZ.out.1.later hb3
  have HR3 := Lib.hid hR3
  have HA3 := Lib.hid (HA.out.later hb3)
  have HK3 : Hid (Keeps (fun k => ¬ c.own k) W W3) := Lib.hid ((Keeps.of_below HZ.out.2 fun _ h _ => h : Keeps (fun k => ¬ c.own k) W W1).trans (Keeps.of_below hb3 fun _ h _ => h))
  have HX3 := Lib.hid hX3
  have p1 := (hb3.cell (p := ⟨p, 1, none⟩) hpl).trans q1
  have hpl3 : p < W3.heap.size := Nat.lt_of_lt_of_le hpl hb3.size
  have hBl3 := hX3.lt
  clear hR3 hb3 hX3 HS0
  cases hs with
  | false =>
    simp only [Bool.false_eq_true, if_false]
    go_wp2_with (refine (HNM.out _ _).mono ?_; rintro e w4 ⟨rfl, hb4⟩; have hR4 := HR3.out.later hb4; have HR4 := Lib.hid hR4; have HA4 := Lib.hid (HA3.out.later hb4); have HK4 : Hid (Keeps (fun k => ¬ c.own k) W w4) := Lib.hid (HK3.out.trans (Keeps.of_below hb4 fun _ h _ => h)); obtain ⟨⟨z0, z1, z2, z3⟩, ⟨y0, y1, y2, y3⟩⟩ := hR4.at; clear hR4 hb4; simp only [flatV, rv])
    obtain ⟨e1, e2⟩ := DoOut.flat (c := c) 3 [] (-2) ⟨c.it.i, c.inv⟩ c.it c.ni c.inv HA4.out HR4.out HK4.out HLO.out (by decide) (by decide) (by decide) (fun _ => rfl) rfl
    exact bodyPost_ret (results_cell rfl rfl (loadRb e2)) rfl e1
  | true =>
    simp only [if_true]
    by_cases hx0 : x = 0
    · rw [if_pos hx0]
      subst hx0
      go_wp2_with (refine (HNM.out _ _).mono ?_; rintro e w4 ⟨rfl, hb4⟩; have hR4 := HR3.out.later hb4; have HR4 := Lib.hid hR4; have HA4 := Lib.hid (HA3.out.later hb4); have HK4 : Hid (Keeps (fun k => ¬ c.own k) W w4) := Lib.hid (HK3.out.trans (Keeps.of_below hb4 fun _ h _ => h)); obtain ⟨⟨z0, z1, z2, z3⟩, ⟨y0, y1, y2, y3⟩⟩ := hR4.at; clear hR4 hb4; simp only [flatV, rv])
      obtain ⟨e1, e2⟩ := DoOut.flat (c := c) 3 [] (-1) ⟨c.it.i, c.inv⟩ c.it c.ni c.inv HA4.out HR4.out HK4.out HLO.out (by decide) (by decide) (by decide) (fun _ => rfl) rfl
      exact bodyPost_ret (results_cell rfl rfl (loadRb e2)) rfl e1
    · rw [if_neg hx0]
      have b1 : (x == 0) = false := by simpa using hx0
      have hd : IntKind.i64.wrap (x - now) = x - now := IntWalk.i64_in _ (by have := HXB.out; omega)
      go_upto_region 6 with (fail)
      have HS0 : Below W3.heap.size W3 W3.drew := (Below.refl _ W3).drew
      refine wp_region_L (S := fun W => Below W3.heap.size W3 W) (f := 8) (by kernel_rfl) ?_
      refine wpAnyL_take (i := 0) (some 28) (v := .pointer (some ⟨W1.heap.size, 4, none⟩)) rfl rfl (by kernel_rfl) (by kernel_rfl) (by kernel_rfl) (by kernel_rfl) (fun _ _ _ h => h) (by rfl) (fun W hS => ?_) HS0 ?_
      · go_simp
      try simp only [Act.put, List.setIfInBounds_toArray, List.set_cons_zero, List.set_cons_succ]
      refine wpAnyL_take (i := 1) (some 29) (v := .int .i64 x) rfl rfl (by kernel_rfl) (by kernel_rfl) (by kernel_rfl) (by kernel_rfl) (fun _ _ _ h => h) (by rfl) (fun W hS => ?_) HS0 ?_
      · have m0 := (hS.cell (p := ⟨W1.heap.size, 4, none⟩) hBl3).trans x4
        go_simp
      try simp only [Act.put, List.setIfInBounds_toArray, List.set_cons_zero, List.set_cons_succ]
      refine wpAnyL_take (i := 2) (some 30) (v := .pointer (some ⟨p, 0, none⟩)) rfl rfl (by kernel_rfl) (by kernel_rfl) (by kernel_rfl) (by kernel_rfl) (fun _ _ _ h => h) (by rfl) (fun W hS => ?_) HS0 ?_
      · go_simp
      try simp only [Act.put, List.setIfInBounds_toArray, List.set_cons_zero, List.set_cons_succ]
      refine wpAnyL_take (i := 3) (some 31) (v := .pointer (some ⟨p, 0, none⟩)) rfl rfl (by kernel_rfl) (by kernel_rfl) (by kernel_rfl) (by kernel_rfl) (fun _ _ _ h => h) (by rfl) (fun W hS => ?_) HS0 ?_
      · go_simp
      try simp only [Act.put, List.setIfInBounds_toArray, List.set_cons_zero, List.set_cons_succ]
      refine wpAnyL_take (i := 4) (some 32) (v := .pointer (some ⟨p, 1, none⟩)) rfl rfl (by kernel_rfl) (by kernel_rfl) (by kernel_rfl) (by kernel_rfl) (fun _ _ _ h => h) (by rfl) (fun W hS => ?_) HS0 ?_
      · go_simp
      try simp only [Act.put, List.setIfInBounds_toArray, List.set_cons_zero, List.set_cons_succ]
      refine wpAnyL_take (i := 5) (some 33) (v := .int .i64 now) rfl rfl (by kernel_rfl) (by kernel_rfl) (by kernel_rfl) (by kernel_rfl) (fun _ _ _ h => h) (by rfl) (fun W hS => ?_) HS0 ?_
      · have m0 := (hS.cell (p := ⟨p, 1, none⟩) hpl3).trans p1
        go_simp
      try simp only [Act.put, List.setIfInBounds_toArray, List.set_cons_zero, List.set_cons_succ]
      refine wpAnyL_take (i := 6) (some 34) (v := .int .i64 (x - now)) rfl rfl (by kernel_rfl) (by kernel_rfl) (by kernel_rfl) (by kernel_rfl) (fun _ _ _ h => h) (by rfl) (fun W hS => ?_) HS0 ?_
      · go_simp
      try simp only [Act.put, List.setIfInBounds_toArray, List.set_cons_zero, List.set_cons_succ]
      refine wpAnyL_one (j := 7) (by kernel_rfl) rfl (by rfl) (fun K hK => ?_)
      go_simp
      refine (HNM.out _ _).mono ?_
      rintro e wc1 ⟨rfl, hb⟩
      have HS1 := HS0.trans (hb.mono HS0.size)
      have hR4 := HR3.out.later HS1
      obtain ⟨⟨z0, z1, z2, z3⟩, ⟨y0, y1, y2, y3⟩⟩ := hR4.at
      clear hb
      refine hK _ _ (fun _ => HS1) ?_
      clear hK K
      try simp only [Act.put, List.setIfInBounds_toArray, List.set_cons_zero, List.set_cons_succ]
      refine wpAnyL_one (j := 8) (by kernel_rfl) rfl (by rfl) (fun K hK => ?_)
      simp only [flatV, rv]
      go_simp
      refine hK _ _ (fun h => absurd rfl h) ?_
      clear hK K
      try simp only [Act.put, List.setIfInBounds_toArray, List.set_cons_zero, List.set_cons_succ]
      refine wpAnyL_done (by kernel_rfl) ?_ _
      have HA4 := Lib.hid (HA3.out.later HS1)
      have HR4 := Lib.hid hR4
      have HK4 : Hid (Keeps (fun k => ¬ c.own k) W wc1) := Lib.hid (HK3.out.trans (Keeps.of_below HS1 fun _ h _ => h))
      clear hR4 HS1 HS0
      go_wp2
      obtain ⟨e1, e2⟩ := DoOut.flat (c := c) 3 [] (x - now) ⟨c.it.i, c.inv⟩ c.it c.ni c.inv HA4.out HR4.out HK4.out HLO.out (by decide) (by have := HXB.out; omega) (by decide) (fun _ => rfl) rfl
      exact bodyPost_ret (results_cell rfl rfl (loadRb e2)) rfl e1
end Go.Proofs.YtokcbcjonbjkgaaGreatDoor
namespace Go.Proofs.YtokcbcjonbjkgaaGreatDoor
open Go.RowKit Go.Shelf
attribute [local go_sem] Oper.semAt_some
set_option linter.unusedVariables false
set_option linter.unusedSimpArgs false

namespace Ec
def rename (st : St) (a b : Bs) : Rp.R × St := match st.it a with
  | none => (errR, st)
  | some i => (done, give ⟨upd st.it a none, st.inv⟩ b i)
end Ec
set_option maxRecDepth 100000 in
set_option maxHeartbeats 8000000 in
theorem rename_c (c : Cl) (w0 W : World) (h : c.At w0 W) (hni : c.ni ≤ 1000) (a k1 k2 : List UInt8) (hws : c.ws = [a, k1, k2]) :
    Calls Tryz.prog 120 #[.pointer (some ⟨c.p, 0, none⟩)] W (DoOut w0 c (Ec.rename ⟨c.it.i, c.inv⟩ k1 k2) W) := by
  obtain ⟨p, hp⟩ : ∃ p, c.p = p := ⟨_, rfl⟩
  obtain ⟨mi, hmi⟩ : ∃ mi, c.mi = mi := ⟨_, rfl⟩
  obtain ⟨W1, hW1⟩ : ∃ W1, W.alloc (.cells #[.int .i64 0, .string ⟨#[]⟩, .int .i64 0, .slice none 0 0] 26) = W1 := ⟨_, rfl⟩
  have hz : Rz W W1 := by rw [← hW1]; exact Rz.new W
  have hA1 : ({ c with rs := W.heap.size :: c.rs } : Cl).At w0 W1 := h.reserve hz.2 [W.heap.size] (fun g hg => by rw [List.mem_singleton.1 hg]; exact ⟨Nat.le_refl _, hz.1.lt⟩)
  have hlo : w0.heap.size ≤ W.heap.size := h.bel.size
  have hkl1 : k1.length ≤ 1000000 := h.wsl.2 k1 (by rw [hws]; simp)
  have hkl2 : k2.length ≤ 1000000 := h.wsl.2 k2 (by rw [hws]; simp)
  obtain ⟨bW, oW, haW, hbW, hcW⟩ := hA1.hW.get (by show 0 < c.ws.length; rw [hws]; simp)
  simp only at haW hcW
  rw [hws] at hcW
  have c1 : W1.cell? ⟨bW, oW + 1, none⟩ = some (.string ⟨k1.toArray⟩) := hcW 1 (by simp)
  have c2 : W1.cell? ⟨bW, oW + 2, none⟩ = some (.string ⟨k2.toArray⟩) := hcW 2 (by simp)
  obtain ⟨q0, -, -, -, -, -, q6, -⟩ := hA1.cell
  simp only at q0 q6
  rw [hp, haW, hws] at q0
  rw [hp, hmi] at q6
  simp only [List.length_cons, List.length_nil, Nat.zero_add, Nat.reduceAdd] at q0
  have hpl : p < W1.heap.size := by rw [← hp]; exact hA1.lt.1
  have hml : mi < W1.heap.size := by rw [← hmi]; exact hA1.lt.2.2
  have hpm : p ≠ mi := by rw [← hp, ← hmi]; exact hA1.ne.2
  obtain ⟨oi, hoi⟩ : ∃ oi, c.it k1 = oi := ⟨_, rfl⟩
  obtain ⟨⟨k, s, aF, fs, cF, aL, ls, cL, x⟩, hi0⟩ : ∃ q, oi.getD Li.zero = q := ⟨_, rfl⟩
  obtain ⟨hs, hhs⟩ : ∃ hs, oi.isSome = hs := ⟨_, rfl⟩
  have HLK : Hid (∀ W', Below W1.heap.size W1 W' → (Instr.lookup 82 (.map (some mi)) (.string ⟨k1.toArray⟩) true).run Tryz.prog W' = .ok (.tuple #[.agg #[.int .i64 k, .string ⟨s.toArray⟩, .slice aF fs.length cF, .slice aL ls.length cL, .int .i64 x], .bool hs]) W') :=
    Lib.hid (fun W' (hb : Below W1.heap.size W1 W') => by
      have := hA1.lk k1 hkl1 W' hb
      simp only at this
      rw [hmi, hoi, hi0, hhs] at this
      exact this)
  have HFA := Lib.hid (fun W => failed_c W)
  have HDN := Lib.hid (fun W => done_c W)
  have HW1 := Lib.hid hW1
  have HZ := Lib.hid hz
  have HA := Lib.hid hA1
  have HLO := Lib.hid hlo
  have HP := Lib.hid (And.intro hp hmi)
  have HOI := Lib.hid hoi
  have HI0 := Lib.hid hi0
  have HNI := Lib.hid hni
  have hplain : ∀ i, oi = some i → i = ⟨k, s, aF, fs, cF, aL, ls, cL, x⟩ := fun i e => by rw [e] at hi0; exact hi0
  have HPL := Lib.hid hplain
  have HMI : Hid (MapI W1 mi c.ni c.it.v) := Lib.hid (by rw [← hmi]; exact hA1.hi)
  rw [hp]
  clear h hp hW1 hz hA1 hcW hws hlo haW hmi hoi hi0 hni hplain
  go_enter Tryz.func120, Tryz.ntmps120
  go_upto_region 1 with (fail)
  rw [HW1.out]
  have HS0 : Below W1.heap.size W1 W1.drew := (Below.refl _ W1).drew
  refine wp_region_L (S := fun W => Below W1.heap.size W1 W) (f := 14) (by kernel_rfl) ?_
  refine wpAnyL_take (i := 0) (some 7) (v := .pointer (some ⟨p, 0, none⟩)) rfl rfl (by kernel_rfl) (by kernel_rfl) (by kernel_rfl) (by kernel_rfl) (fun _ _ _ h => h) (by rfl) (fun W hS => ?_) HS0 ?_
  · go_simp
  try simp only [Act.put, List.setIfInBounds_toArray, List.set_cons_zero, List.set_cons_succ]
  refine wpAnyL_take (i := 1) (some 8) (v := .pointer (some ⟨p, 0, none⟩)) rfl rfl (by kernel_rfl) (by kernel_rfl) (by kernel_rfl) (by kernel_rfl) (fun _ _ _ h => h) (by rfl) (fun W hS => ?_) HS0 ?_
  · go_simp
  try simp only [Act.put, List.setIfInBounds_toArray, List.set_cons_zero, List.set_cons_succ]
  refine wpAnyL_take (i := 2) (some 9) (v := .pointer (some ⟨p, 0, none⟩)) rfl rfl (by kernel_rfl) (by kernel_rfl) (by kernel_rfl) (by kernel_rfl) (fun _ _ _ h => h) (by rfl) (fun W hS => ?_) HS0 ?_
  · go_simp
  try simp only [Act.put, List.setIfInBounds_toArray, List.set_cons_zero, List.set_cons_succ]
  refine wpAnyL_take (i := 3) (some 10) (v := .slice (some ⟨bW, oW, none⟩) 3 c.cW) rfl rfl (by kernel_rfl) (by kernel_rfl) (by kernel_rfl) (by kernel_rfl) (fun _ _ _ h => h) (by rfl) (fun W hS => ?_) HS0 ?_
  · have m0 := (hS.cell (p := ⟨p, 0, none⟩) hpl).trans q0
    go_simp
  try simp only [Act.put, List.setIfInBounds_toArray, List.set_cons_zero, List.set_cons_succ]
  refine wpAnyL_take (i := 4) (some 11) (v := .pointer (some ⟨bW, oW + 1, none⟩)) rfl rfl (by kernel_rfl) (by kernel_rfl) (by kernel_rfl) (by kernel_rfl) (fun _ _ _ h => h) (by rfl) (fun W hS => ?_) HS0 ?_
  · go_simp
  try simp only [Act.put, List.setIfInBounds_toArray, List.set_cons_zero, List.set_cons_succ]
  refine wpAnyL_take (i := 5) (some 12) (v := .string ⟨k1.toArray⟩) rfl rfl (by kernel_rfl) (by kernel_rfl) (by kernel_rfl) (by kernel_rfl) (fun _ _ _ h => h) (by rfl) (fun W hS => ?_) HS0 ?_
  · have m0 := (hS.cell (p := ⟨bW, oW + 1, none⟩) hbW).trans c1
    go_simp
  try simp only [Act.put, List.setIfInBounds_toArray, List.set_cons_zero, List.set_cons_succ]
  refine wpAnyL_take (i := 6) (some 13) (v := .pointer (some ⟨p, 0, none⟩)) rfl rfl (by kernel_rfl) (by kernel_rfl) (by kernel_rfl) (by kernel_rfl) (fun _ _ _ h => h) (by rfl) (fun W hS => ?_) HS0 ?_
  · go_simp
  try simp only [Act.put, List.setIfInBounds_toArray, List.set_cons_zero, List.set_cons_succ]
  refine wpAnyL_take (i := 7) (some 14) (v := .pointer (some ⟨p, 0, none⟩)) rfl rfl (by kernel_rfl) (by kernel_rfl) (by kernel_rfl) (by kernel_rfl) (fun _ _ _ h => h) (by rfl) (fun W hS => ?_) HS0 ?_
  · go_simp
  try simp only [Act.put, List.setIfInBounds_toArray, List.set_cons_zero, List.set_cons_succ]
  refine wpAnyL_take (i := 8) (some 15) (v := .pointer (some ⟨p, 0, none⟩)) rfl rfl (by kernel_rfl) (by kernel_rfl) (by kernel_rfl) (by kernel_rfl) (fun _ _ _ h => h) (by rfl) (fun W hS => ?_) HS0 ?_
  · go_simp
  try simp only [Act.put, List.setIfInBounds_toArray, List.set_cons_zero, List.set_cons_succ]
  refine wpAnyL_take (i := 9) (some 16) (v := .slice (some ⟨bW, oW, none⟩) 3 c.cW) rfl rfl (by kernel_rfl) (by kernel_rfl) (by kernel_rfl) (by kernel_rfl) (fun _ _ _ h => h) (by rfl) (fun W hS => ?_) HS0 ?_
  · have m0 := (hS.cell (p := ⟨p, 0, none⟩) hpl).trans q0
    go_simp
  try simp only [Act.put, List.setIfInBounds_toArray, List.set_cons_zero, List.set_cons_succ]
  refine wpAnyL_take (i := 10) (some 17) (v := .pointer (some ⟨bW, oW + 2, none⟩)) rfl rfl (by kernel_rfl) (by kernel_rfl) (by kernel_rfl) (by kernel_rfl) (fun _ _ _ h => h) (by rfl) (fun W hS => ?_) HS0 ?_
  · go_simp
  try simp only [Act.put, List.setIfInBounds_toArray, List.set_cons_zero, List.set_cons_succ]
  refine wpAnyL_take (i := 11) (some 18) (v := .string ⟨k2.toArray⟩) rfl rfl (by kernel_rfl) (by kernel_rfl) (by kernel_rfl) (by kernel_rfl) (fun _ _ _ h => h) (by rfl) (fun W hS => ?_) HS0 ?_
  · have m0 := (hS.cell (p := ⟨bW, oW + 2, none⟩) hbW).trans c2
    go_simp
  try simp only [Act.put, List.setIfInBounds_toArray, List.set_cons_zero, List.set_cons_succ]
  refine wpAnyL_take (i := 12) (some 3) (v := .string ⟨k1.toArray⟩) rfl rfl (by kernel_rfl) (by kernel_rfl) (by kernel_rfl) (by kernel_rfl) (fun _ _ _ h => h) (by rfl) (fun W hS => ?_) HS0 ?_
  · go_simp
  try simp only [Act.put, List.setIfInBounds_toArray, List.set_cons_zero, List.set_cons_succ]
  refine wpAnyL_one (j := 13) (by kernel_rfl) rfl (by rfl) (fun K hK => ?_)
  go_simp
  refine hK _ _ (fun _ => HS0) ?_
  clear hK K
  try simp only [Act.put, List.setIfInBounds_toArray, List.set_cons_zero, List.set_cons_succ]
  refine wpAnyL_done (by kernel_rfl) ?_ _
  have hlk := HLK.out W1.drew ((Below.refl _ W1).drew)
  obtain ⟨Wd, hWd⟩ : ∃ Wd, W1.drew = Wd := ⟨_, rfl⟩
  have hbd : Below W1.heap.size W1 Wd := by rw [← hWd]; exact (Below.refl _ W1).drew
  have q6d := (hbd.cell (p := ⟨p, 6, none⟩) hpl).trans q6
  have hpld : p < Wd.heap.size := Nat.lt_of_lt_of_le hpl hbd.size
  have hmld : mi < Wd.heap.size := Nat.lt_of_lt_of_le hml hbd.size
  rw [hWd] at hlk ⊢
  clear HS0 hWd
  obtain ⟨W2, hW2⟩ : ∃ W2, Wd.alloc (.cells #[.int .i64 k, .string ⟨s.toArray⟩, .slice aF fs.length cF, .slice aL ls.length cL, .int .i64 x] 38) = W2 := ⟨_, rfl⟩
  have hX2 : ItBox W2 Wd.heap.size k s aF fs.length cF aL ls.length cL x := by rw [← hW2]; exact ItBox.new Wd k s aF fs.length cF aL ls.length cL x
  have hb2 : Below W1.heap.size W1 W2 := hbd.trans ((by rw [← hW2]; exact (Below.refl _ _).alloc (Nat.le_refl _) _ : Below Wd.heap.size Wd W2).mono hbd.size)
  have hR2 := HZ.out.1.later hb2
  have HR2 := Lib.hid hR2
  have HA2 := Lib.hid (HA.out.later hb2)
  have HK2 : Hid (Keeps (fun k => ¬ c.own k) W W2) := Lib.hid ((Keeps.of_below HZ.out.2 fun _ h _ => h : Keeps (fun k => ¬ c.own k) W W1).trans (Keeps.of_below hb2 fun _ h _ => h))
  have HX2 := Lib.hid hX2
  have HW2 := Lib.hid hW2
  have q62 := (hb2.cell (p := ⟨p, 6, none⟩) hpl).trans q6
  have hpl2 : p < W2.heap.size := Nat.lt_of_lt_of_le hpl hb2.size
  have hml2 : mi < W2.heap.size := Nat.lt_of_lt_of_le hml hb2.size
  have HM2 : Hid (MapI W2 mi c.ni c.it.v) := Lib.hid (HMI.out.later hb2)
  have hBm : Wd.heap.size ≠ mi := by omega
  clear hbd q0 q6 c1 c2 hX2 hR2 hW2 hb2
  cases hs with
  | false =>
    have hn : oi = none := by cases oi with | none => rfl | some i => cases hhs
    have HG : Hid (Ec.rename ⟨c.it.i, c.inv⟩ k1 k2 = (.mk 2 [69, 82, 82] 0 [], ⟨c.it.i, c.inv⟩)) := Lib.hid (by unfold Ec.rename ML.i; simp only; rw [HOI.out, hn]; rfl)
    go_wp2_with (rw [HW2.out]; refine (HFA.out _).mono ?_; rintro e w4 ⟨rfl, hb4⟩; have hR4 := HR2.out.later hb4; have HR4 := Lib.hid hR4; have HA4 := Lib.hid (HA2.out.later hb4); have HK4 : Hid (Keeps (fun k => ¬ c.own k) W w4) := Lib.hid (HK2.out.trans (Keeps.of_below hb4 fun _ h _ => h)); obtain ⟨⟨z0, z1, z2, z3⟩, ⟨y0, y1, y2, y3⟩⟩ := hR4.at; clear hR4 hb4; simp only [flatV, rv])
    obtain ⟨e1, e2⟩ := DoOut.flat (c := c) 2 [69, 82, 82] 0 ⟨c.it.i, c.inv⟩ c.it c.ni c.inv HA4.out HR4.out HK4.out HLO.out (by decide) (by decide) (by decide) (fun _ => rfl) rfl
    rw [← HG.out] at e1
    exact bodyPost_ret (results_cell rfl rfl (loadRb e2)) rfl e1
  | true =>
    obtain ⟨i0, hi⟩ : ∃ i0, oi = some i0 := by cases oi with | none => cases hhs | some i => exact ⟨i, rfl⟩
    have hi2 := HPL.out i0 hi
    subst hi2
    have hit : c.it k1 = some ⟨k, s, aF, fs, cF, aL, ls, cL, x⟩ := HOI.out.trans hi
    obtain ⟨okI, offI, smI⟩ := HA2.out.ki k1 _ hit
    have HOK := Lib.hid (And.intro okI (And.intro offI smI))
    have HG : Hid (Ec.rename ⟨c.it.i, c.inv⟩ k1 k2 = (Ec.done, Ec.give ⟨Ec.upd c.it.i k1 none, c.inv⟩ k2 (Li.i ⟨k, s, aF, fs, cF, aL, ls, cL, x⟩))) := Lib.hid (by unfold Ec.rename; simp only; rw [show c.it.i k1 = some (Li.i ⟨k, s, aF, fs, cF, aL, ls, cL, x⟩) by unfold ML.i; rw [hit]; rfl])
    clear okI offI smI hit hi
    go_upto_region 5 with (fail)
    rw [HW2.out]
    go_upto_region 6 with (at_delete; refine wpList_delI _ rfl (.tmp 34) (.tmp 35) rfl mi c.ni c.it.v rfl HM2.out k1 rfl hkl1 ?_; intro w3 hm3 ht3; have HM3 := Lib.hid hm3; have HT3 := Lib.hid (MapTurned.keeps ht3); clear hm3 ht3)
    have hA3 := HA2.out.items (W' := w3) (by show Keeps (fun y => y ≠ c.mi) W2 w3; rw [HP.out.2]; exact HT3.out) c.ni (fun y => if y = k1 then none else c.it y) (by show MapI w3 c.mi _ _; rw [HP.out.2]; exact HM3.out.ext fun y => (updI_none c.it k1 y).symm) (by show c.ni ≤ 100000; have := HNI.out; omega) (fun y i e => by
      by_cases hy : y = k1
      · rw [if_pos hy] at e; cases e
      · rw [if_neg hy] at e; exact .inl e)
    have hX3 : ItBox w3 Wd.heap.size k s aF fs.length cF aL ls.length cL x := HT3.out.heap HX2.out hBm
    have hR3 : Rb w3 W.heap.size 0 [] 0 none 0 0 := HT3.out.heap HR2.out (fun e => HA2.out.notown HR2.out (by decide) (by decide) (by decide) (.inr (.inr (.inl (e.trans HP.out.2.symm)))))
    have hK3 : Keeps (fun k => ¬ c.own k) W2 w3 := HT3.out.mono fun y _ h e => h (.inr (.inr (.inl (e.trans HP.out.2.symm))))
    have okI3 : (⟨k, s, aF, fs, cF, aL, ls, cL, x⟩ : Li).Ok w3 := HOK.out.1.keptO (fun g hg => HOK.out.2.1 g (.inl hg)) hK3
    have HGV : Hid (Calls Tryz.prog 126 #[.pointer (some ⟨p, 0, none⟩), .string ⟨k2.toArray⟩, .agg #[.int .i64 k, .string ⟨s.toArray⟩, .slice aF fs.length cF, .slice aL ls.length cL, .int .i64 x]] w3 (GiveOut w0 { c with rs := W.heap.size :: c.rs, it := fun y => if y = k1 then none else c.it y, ni := c.ni } (Ec.give ⟨ML.i fun y => if y = k1 then none else c.it y, c.inv⟩ k2 (Li.i ⟨k, s, aF, fs, cF, aL, ls, cL, x⟩)) w3)) :=
      Lib.hid (by rw [← HP.out.1]; exact give_any { c with rs := W.heap.size :: c.rs, it := fun y => if y = k1 then none else c.it y, ni := c.ni } w0 w3 k2 ⟨k, s, aF, fs, cF, aL, ls, cL, x⟩ hA3 hkl2 okI3 HOK.out.2.1 HOK.out.2.2 (by show c.ni < 100000; have := HNI.out; omega))
    obtain ⟨x0, x1, x2, x3, x4⟩ := hX3.at
    have HA3 := Lib.hid hA3
    have HR3 := Lib.hid hR3
    have HK3 := Lib.hid hK3
    clear hA3 hX3 hR3 hK3 okI3
    go_upto_region 7 with (go_at_call 126; refine HGV.out.mono ?_; rintro e w4 ⟨hk4, vv, it, ni, inv, rfl, hA4, hit4, hinv4, hni4⟩; have HA4 := Lib.hid hA4; have HK4 := Lib.hid hk4; have HIT := Lib.hid (And.intro hit4 hinv4); have HR4 : Hid (Rb w4 W.heap.size 0 [] 0 none 0 0) := Lib.hid (hk4.heap HR3.out (HA3.out.notown HR3.out (by decide) (by decide) (by decide))); clear hk4 hA4 hit4 hinv4 hni4)
    have HKK : Hid (Keeps (fun k => ¬ c.own k) W w4) := Lib.hid ((HK2.out.trans HK3.out).trans HK4.out)
    clear x0 x1 x2 x3 x4
    go_wp2_with (refine (HDN.out _).mono ?_; rintro e w5 ⟨rfl, hb5⟩; have hR5 := HR4.out.later hb5; have HR5 := Lib.hid hR5; have HA5 := Lib.hid (HA4.out.later hb5); have HK5 : Hid (Keeps (fun k => ¬ c.own k) W w5) := Lib.hid (HKK.out.trans (Keeps.of_below hb5 fun _ h _ => h)); obtain ⟨⟨z0, z1, z2, z3⟩, ⟨y0, y1, y2, y3⟩⟩ := hR5.at; clear hR5 hb5; simp only [flatV, rv])
    have hfun : (ML.i fun y => if y = k1 then none else c.it y) = Ec.upd c.it.i k1 none := funext fun y => upd_i c.it k1 none y
    have hit := HIT.out
    rw [hfun] at hit
    obtain ⟨e1, e2⟩ := DoOut.flat (c := c) 1 [79, 75] 0 (Ec.give ⟨Ec.upd c.it.i k1 none, c.inv⟩ k2 (Li.i ⟨k, s, aF, fs, cF, aL, ls, cL, x⟩)) it ni inv HA5.out HR5.out HK5.out HLO.out (by decide) (by decide) (by decide) hit.1 hit.2
    rw [show (.mk 1 [79, 75] 0 [] : Rp.R) = Ec.done from rfl, ← HG.out] at e1
    exact bodyPost_ret (results_cell rfl rfl (loadRb e2)) rfl e1
end Go.Proofs.YtokcbcjonbjkgaaGreatDoor
namespace Go.Proofs.YtokcbcjonbjkgaaGreatDoor
open Go.RowKit Go.Shelf
set_option linter.unusedVariables false

namespace Ec
/-- what the commands' functions do. -/
def dGet : Do := fun ws _ _ _ _ st => (bulk ((st.it (ws.getD 1 [])).getD z0).s (st.it (ws.getD 1 [])).isSome, st)
def dSet : Do := fun ws _ _ _ _ st => (done, giveText st (ws.getD 1 []) (ws.getD 2 []) 0)
def dTtl : Do := fun ws now _ _ _ st => (ttl now st (ws.getD 1 []), st)
def dRename : Do := fun ws _ _ _ _ st => rename st (ws.getD 1 []) (ws.getD 2 [])
end Ec

theorem get_do : DoC 69 (fun c => ∃ a k, c.ws = [a, k]) Ec.dGet :=
  ⟨enters_of Tryz.func69 (by kernel_rfl) rfl, fun w0 W c h hi hn hp => by
    obtain ⟨a, k, hw⟩ := hp
    have := get_c c w0 W h a k hw
    rw [hi] at this
    unfold Ec.dGet
    rw [hw]
    exact this⟩
theorem set_do : DoC 108 (fun c => ∃ a k v, c.ws = [a, k, v]) Ec.dSet :=
  ⟨enters_of Tryz.func108 (by kernel_rfl) rfl, fun w0 W c h hi hn hp => by
    obtain ⟨a, k, v, hw⟩ := hp
    have := set_c c w0 W h hn a k v hw
    rw [hi] at this
    unfold Ec.dSet
    rw [hw]
    exact this⟩
theorem ttl_do : DoC 118 (fun c => ∃ a k, c.ws = [a, k] ∧ (∀ i, c.it k = some i → 0 ≤ i.x ∧ i.x ≤ 4611686018427387904) ∧ 0 ≤ c.now ∧ c.now ≤ 4611686018427387904) Ec.dTtl :=
  ⟨enters_of Tryz.func118 (by kernel_rfl) rfl, fun w0 W c h hi hn hp => by
    obtain ⟨a, k, hw, hx, hnw⟩ := hp
    have := ttl_c c w0 W h a k hw hx hnw
    rw [hi] at this
    unfold Ec.dTtl
    rw [hw]
    exact this⟩
theorem rename_do : DoC 120 (fun c => ∃ a k v, c.ws = [a, k, v]) Ec.dRename :=
  ⟨enters_of Tryz.func120 (by kernel_rfl) rfl, fun w0 W c h hi hn hp => by
    obtain ⟨a, k, v, hw⟩ := hp
    have := rename_c c w0 W h hn a k v hw
    rw [hi] at this
    unfold Ec.dRename
    rw [hw]
    exact this⟩

theorem ck2 (nm k : List UInt8) (s : Cm.Sp) (hf : Cm.findS nm = some s) (hc : Cm.countOk s 2 = true) (h1 : s.first = 1 ∧ s.last = 1 ∧ s.step = 1) (hk : k.length ≤ 40) : Cm.checkS [nm, k] = some s ∧ Cm.keysOf [nm, k] = [k] := by
  have hks : Cm.keysS s [nm, k] = [k] := by simp [Cm.keysS, Cm.cnt, Cm.lastI, h1]
  have h : Cm.checkS [nm, k] = some s := by
    unfold Cm.checkS
    rw [if_neg (by simp), show ([nm, k] : List (List UInt8)).getD 0 [] = nm from rfl, hf]
    simp only [hks]
    rw [show ([nm, k] : List (List UInt8)).length = 2 from rfl, hc]
    simp [hk]
  exact ⟨h, by unfold Cm.keysOf; rw [h]; exact hks⟩
theorem ck3 (nm k v : List UInt8) (s : Cm.Sp) (hf : Cm.findS nm = some s) (hc : Cm.countOk s 3 = true) (h1 : s.first = 1 ∧ s.last = 1 ∧ s.step = 1) (hk : k.length ≤ 40) : Cm.checkS [nm, k, v] = some s ∧ Cm.keysOf [nm, k, v] = [k] := by
  have hks : Cm.keysS s [nm, k, v] = [k] := by simp [Cm.keysS, Cm.cnt, Cm.lastI, h1]
  have h : Cm.checkS [nm, k, v] = some s := by
    unfold Cm.checkS
    rw [if_neg (by simp), show ([nm, k, v] : List (List UInt8)).getD 0 [] = nm from rfl, hf]
    simp only [hks]
    rw [show ([nm, k, v] : List (List UInt8)).length = 3 from rfl, hc]
    simp [hk]
  exact ⟨h, by unfold Cm.keysOf; rw [h]; exact hks⟩
theorem ck32 (nm k v : List UInt8) (s : Cm.Sp) (hf : Cm.findS nm = some s) (hc : Cm.countOk s 3 = true) (h1 : s.first = 1 ∧ s.last = 2 ∧ s.step = 1) (hk : k.length ≤ 40) (hv : v.length ≤ 40) : Cm.checkS [nm, k, v] = some s ∧ Cm.keysOf [nm, k, v] = [k, v] := by
  have hks : Cm.keysS s [nm, k, v] = [k, v] := by simp [Cm.keysS, Cm.cnt, Cm.lastI, h1]; rfl
  have h : Cm.checkS [nm, k, v] = some s := by
    unfold Cm.checkS
    rw [if_neg (by simp), show ([nm, k, v] : List (List UInt8)).getD 0 [] = nm from rfl, hf]
    simp only [hks]
    rw [show ([nm, k, v] : List (List UInt8)).length = 3 from rfl, hc]
    simp [hk, hv]
  exact ⟨h, by unfold Cm.keysOf; rw [h]; exact hks⟩

/-- Exec of GET k. -/
theorem exec_get (a : Option Addr) (cap : Nat) (ps : List Lp) (aW : Option Addr) (cW : Nat) (k : List UInt8) (now : Int) (w : World) (hP : Prs w a cap ps) (hn : ps.length ≤ 1000000) (hu : AscL ps) (hsm : ∀ p ∈ ps, p.p.Sm)
    (hW : Wds w aW cW [[71, 69, 84], k]) (hk : k.length ≤ 40) (hnow : 0 ≤ now ∧ now ≤ 4611686018427387904) :
    Calls Tryz.prog 9 #[.slice a ps.length cap, .slice aW 2 cW, .int .i64 now] w (ExecOut (Ec.exec 1 [] Ec.dGet (ps.map Lp.p) [[71, 69, 84], k] now) w) := by
  obtain ⟨hc, hks⟩ := ck2 [71, 69, 84] k ⟨[71, 69, 84], 2, 2, 1, 1, 1, false⟩ (by decide +kernel) (by decide) ⟨rfl, rfl, rfl⟩ hk
  exact exec_some a cap ps aW cW [[71, 69, 84], k] now w hP hn hu hsm hW ⟨by simp, fun s hs => by simp at hs; rcases hs with rfl | rfl <;> first | decide | omega⟩ hnow _ hc ⟨1, ⟨[71, 69, 84], [], 69⟩⟩ (by kernel_rfl)
    ⟨by rw [hks]; simp, by rw [hks]; simp; omega⟩ _ Ec.dGet get_do (.inl rfl) ⟨by simp, by simp⟩ (fun c hw _ _ _ _ _ _ => ⟨_, _, hw⟩)
theorem exec_ttl (a : Option Addr) (cap : Nat) (ps : List Lp) (aW : Option Addr) (cW : Nat) (k : List UInt8) (now : Int) (w : World) (hP : Prs w a cap ps) (hn : ps.length ≤ 1000000) (hu : AscL ps) (hsm : ∀ p ∈ ps, p.p.Sm)
    (hW : Wds w aW cW [[84, 84, 76], k]) (hk : k.length ≤ 40) (hnow : 0 ≤ now ∧ now ≤ 4611686018427387904) (hx : ∀ i, Db.raw (ps.map Lp.p) k = some i → 0 ≤ i.exp ∧ i.exp ≤ 4611686018427387904) :
    Calls Tryz.prog 9 #[.slice a ps.length cap, .slice aW 2 cW, .int .i64 now] w (ExecOut (Ec.exec 0 [] Ec.dTtl (ps.map Lp.p) [[84, 84, 76], k] now) w) := by
  obtain ⟨hc, hks⟩ := ck2 [84, 84, 76] k ⟨[84, 84, 76], 2, 2, 1, 1, 1, false⟩ (by decide +kernel) (by decide) ⟨rfl, rfl, rfl⟩ hk
  exact exec_some a cap ps aW cW [[84, 84, 76], k] now w hP hn hu hsm hW ⟨by simp, fun s hs => by simp at hs; rcases hs with rfl | rfl <;> first | decide | omega⟩ hnow _ hc ⟨0, ⟨[84, 84, 76], [], 118⟩⟩ (by kernel_rfl)
    ⟨by rw [hks]; simp, by rw [hks]; simp; omega⟩ _ Ec.dTtl ttl_do (.inl rfl) ⟨by simp, by simp⟩ (fun c hw hnw _ _ _ h5 _ => ⟨_, _, hw, (fun i hi => by
      have h6 := h5 k
      unfold ML.i at h6
      rw [hi] at h6
      have h7 : Ec.live now (Ec.before (ps.map Lp.p) c.ks) k = some i.i := h6.symm
      unfold Ec.live Ec.before at h7
      by_cases hm : k ∈ c.ks
      · rw [if_pos hm] at h7
        cases hr : Db.raw (ps.map Lp.p) k with
        | none => rw [hr] at h7; cases h7
        | some j =>
          rw [hr] at h7
          simp only [Option.bind_some] at h7
          split at h7
          · injection h7 with h7
            subst h7
            exact hx _ hr
          · cases h7
      · rw [if_neg hm] at h7; cases h7), by rw [hnw]; exact hnow⟩)
theorem exec_set (a : Option Addr) (cap : Nat) (ps : List Lp) (aW : Option Addr) (cW : Nat) (k v : List UInt8) (now : Int) (w : World) (hP : Prs w a cap ps) (hn : ps.length ≤ 1000000) (hu : AscL ps) (hsm : ∀ p ∈ ps, p.p.Sm)
    (hW : Wds w aW cW [[83, 69, 84], k, v]) (hk : k.length ≤ 40) (hv : v.length ≤ 1000000) (hnow : 0 ≤ now ∧ now ≤ 4611686018427387904) :
    Calls Tryz.prog 9 #[.slice a ps.length cap, .slice aW 3 cW, .int .i64 now] w (ExecOut (Ec.exec 0 [] Ec.dSet (ps.map Lp.p) [[83, 69, 84], k, v] now) w) := by
  obtain ⟨hc, hks⟩ := ck3 [83, 69, 84] k v ⟨[83, 69, 84], 3, 3, 1, 1, 1, true⟩ (by decide +kernel) (by decide) ⟨rfl, rfl, rfl⟩ hk
  exact exec_some a cap ps aW cW [[83, 69, 84], k, v] now w hP hn hu hsm hW ⟨by simp, fun s hs => by simp at hs; rcases hs with rfl | rfl | rfl <;> first | decide | omega⟩ hnow _ hc ⟨0, ⟨[83, 69, 84], [], 108⟩⟩ (by kernel_rfl)
    ⟨by rw [hks]; simp, by rw [hks]; simp; omega⟩ _ Ec.dSet set_do (.inl rfl) ⟨by simp, by simp⟩ (fun c hw _ _ _ _ _ _ => ⟨_, _, _, hw⟩)
theorem exec_rename (a : Option Addr) (cap : Nat) (ps : List Lp) (aW : Option Addr) (cW : Nat) (k v : List UInt8) (now : Int) (w : World) (hP : Prs w a cap ps) (hn : ps.length ≤ 1000000) (hu : AscL ps) (hsm : ∀ p ∈ ps, p.p.Sm)
    (hW : Wds w aW cW [[82, 69, 78, 65, 77, 69], k, v]) (hk : k.length ≤ 40) (hv : v.length ≤ 40) (hnow : 0 ≤ now ∧ now ≤ 4611686018427387904) :
    Calls Tryz.prog 9 #[.slice a ps.length cap, .slice aW 3 cW, .int .i64 now] w (ExecOut (Ec.exec 0 [] Ec.dRename (ps.map Lp.p) [[82, 69, 78, 65, 77, 69], k, v] now) w) := by
  obtain ⟨hc, hks⟩ := ck32 [82, 69, 78, 65, 77, 69] k v ⟨[82, 69, 78, 65, 77, 69], 3, 3, 1, 2, 1, true⟩ (by decide +kernel) (by decide) ⟨rfl, rfl, rfl⟩ hk hv
  exact exec_some a cap ps aW cW [[82, 69, 78, 65, 77, 69], k, v] now w hP hn hu hsm hW ⟨by simp, fun s hs => by simp at hs; rcases hs with rfl | rfl | rfl <;> first | decide | omega⟩ hnow _ hc ⟨0, ⟨[82, 69, 78, 65, 77, 69], [], 120⟩⟩ (by kernel_rfl)
    ⟨by rw [hks]; simp, by rw [hks]; simp; omega⟩ _ Ec.dRename rename_do (.inl rfl) ⟨by simp, by simp⟩ (fun c hw _ _ _ _ _ _ => ⟨_, _, _, hw⟩)
end Go.Proofs.YtokcbcjonbjkgaaGreatDoor
