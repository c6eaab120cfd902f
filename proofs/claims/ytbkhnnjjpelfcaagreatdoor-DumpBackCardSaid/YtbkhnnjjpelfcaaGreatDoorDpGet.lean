/- The contract of Get (10.1). -/
import Derived.Test.YtbkhnnjjpelfcaaGreatDoorDpRead
import Derived.Test.YtbkhnnjjpelfcaaGreatDoorDpPut
import Derived.Test.YtbkhnnjjpelfcaaGreatDoorRpGet
namespace Go.Proofs.YtbkhnnjjpelfcaaGreatDoor
open Go.RowKit Go.Shelf
attribute [local go_sem] Oper.semAt_some
set_option linter.unusedVariables false
set_option linter.unusedSimpArgs false

/-- a reply's elements, of which the texts are told. -/
theorem rps_of_rep {S : Nat → Prop} {w : World} {r : Rp.R} {k s n : Value} {a : Option Addr} {m c M : Nat} (h : Rep S w r (.agg #[k, s, n, .slice a m c])) (hs : Rp.Sml r M) (hM : M ≤ 1000000) :
    k = .int .i64 r.k ∧ s = .string ⟨r.s.toArray⟩ ∧ n = .int .i64 r.n ∧ m = r.l.length ∧ Rps w a c (r.l.map (·.s)) := by
  obtain ⟨a', c', hv, hf, hl⟩ := h.parts
  unfold rv at hv
  simp only [Value.agg.injEq, Array.mk.injEq, List.cons.injEq, and_true, Value.slice.injEq] at hv
  obtain ⟨rfl, rfl, rfl, rfl, rfl, rfl⟩ := hv
  refine ⟨rfl, rfl, rfl, rfl, ?_⟩
  obtain ⟨-, -, -, -, -, f6, f7, f8⟩ := hf
  refine ⟨by rw [List.length_map]; exact f6, f8, fun s hm => ?_, ?_⟩
  · obtain ⟨x, hx, rfl⟩ := List.mem_map.1 hm
    have := hs.2.2 x hx
    omega
  · rcases hl with hl | ⟨b, off, ha, _, hlt, hr⟩
    · exact .inl (by rw [hl]; rfl)
    · refine .inr ⟨b, off, ha, hlt, fun j hj => ?_⟩
      rw [List.length_map] at hj
      obtain ⟨v0, v1, v2, v3, c0, c1, c2, c3, hx⟩ := hr.get j hj
      obtain ⟨a3, c3', hv, -, -⟩ := hx.parts
      unfold rv at hv
      simp only [Value.agg.injEq, Array.mk.injEq, List.cons.injEq, and_true] at hv
      obtain ⟨rfl, rfl, rfl, rfl⟩ := hv
      have e : (r.l.map (·.s)).getD j [] = r.l[j].s := by simp [List.getD, hj]
      rw [e]
      exact ⟨_, _, _, _, _, c0, c1, c2, c3⟩

/-- what the bytes of a string tell. -/
theorem get_str (X : List UInt8) (hl : X.length ≤ 1000000) (W : World) (henv : Env W) :
    Calls Tryz.prog 14 #[.slice (some ⟨W.heap.size, 0, none⟩) X.length (capS W X), .int .i64 0] (Lib.bytesWorld W 5 ⟨X.toArray⟩) fun e W' => Below W.heap.size W W' ∧ match Rp.replyD 8 X with
      | .ok r t => ∃ a c, e = .returned (.tuple #[.agg #[.int .i64 r.k, .string ⟨r.s.toArray⟩, .int .i64 r.n, .slice a r.l.length c], .int .i64 ((X.length : Int) - (t.length : Int)), .int .i64 0]) ∧ Rps W' a c (r.l.map (·.s)) ∧ r.l.length ≤ 65536
      | .err c => c ≠ 0 ∧ e = .returned (.tuple #[.agg #[.int .i64 0, .string ⟨#[]⟩, .int .i64 0, .slice none 0 0], .int .i64 0, .int .i64 c]) := by
  have hb := Lib.bytesWorld_below W 5 ⟨X.toArray⟩
  have hg := get_any X 0 _ _ _ (by omega) (by decide) (by decide) (sb_bt W X (by omega) ⟨grownCap_ge _ _ _ _, by
    have := grownCap_le_maxLen W X.length 0 5 (by unfold maxLen; omega)
    unfold capS
    unfold maxLen at this
    omega⟩) (henv.later hb)
  have e : getO X 0 = Rp.replyD 8 X := by
    unfold getO
    rw [if_neg (by omega)]
    rfl
  rw [e] at hg
  refine hg.mono ?_
  rintro e W' ⟨hb2, h⟩
  refine ⟨hb.trans (hb2.mono hb.size), ?_⟩
  cases hr : Rp.replyD 8 X with
  | err c => rw [hr] at h; exact h
  | ok r t =>
    rw [hr] at h
    obtain ⟨k, s, m, a, l, cap, rfl, hrep⟩ := h
    have hsm := Rp.replyD_s 8 X r t hr
    obtain ⟨e1, e2, e3, e4, e5⟩ := rps_of_rep hrep hsm hl
    simp only [Value.int.injEq, true_and, Value.string.injEq] at e1 e2 e3
    subst e1 e2 e3 e4
    exact ⟨a, cap, rfl, e5, hsm.2.1⟩

/-- the result's box, zero, and what was there. -/
def GZ (w W : World) : Prop := ItBox W w.heap.size 0 [] none 0 0 none 0 0 0 ∧ Below w.heap.size w W
theorem GZ.later {w W W' : World} (h : GZ w W) (hb : Below W.heap.size W W') : GZ w W' := ⟨h.1.later hb, h.2.trans (hb.mono h.2.size)⟩
theorem GZ.new (w : World) : GZ w (w.alloc (itc 0 [] none 0 0 none 0 0 0)) := ⟨ItBox.new w 0 [] none 0 0 none 0 0 0, (Below.refl _ w).alloc (Nat.le_refl _) _⟩
theorem GZ.store {w W : World} (h : GZ w W) (k : Int) (s : List UInt8) (aF : Option Addr) (nF cF : Nat) (aL : Option Addr) (nL cL : Nat) (x : Int) :
    ItBox (stIt W w.heap.size k s aF nF cF aL nL cL x) w.heap.size k s aF nF cF aL nL cL x ∧ Below w.heap.size w (stIt W w.heap.size k s aF nF cF aL nL cL x) ∧ Keeps (fun j => j ≠ w.heap.size) W (stIt W w.heap.size k s aF nF cF aL nL cL x) :=
  ⟨h.1.store k s aF nF cF aL nL cL x, below_stIt h.2 (Nat.le_refl _) k s aF nF cF aL nL cL x, (Keeps.refl _ W).stIt (.inr fun h => h rfl) k s aF nF cF aL nL cL x⟩

set_option maxRecDepth 100000 in
set_option maxHeartbeats 1000000 in
theorem dget_err (X : List UInt8) (w : World) (hl : X.length ≤ 1000000) (henv : Env w) (c : Int) (h : Rp.replyD 8 X = .err c) : Calls Tryz.prog 8 #[.string ⟨X.toArray⟩] w (IOut none w) := by
  have hgz := GZ.new w
  have hg := get_str X hl _ (henv.later (hgz.2))
  rw [h, World.size_alloc] at hg
  have hcv := sb_conv (w.alloc (itc 0 [] none 0 0 none 0 0 0)) X
  rw [World.size_alloc] at hcv
  unfold itc at hgz hg hcv
  have HGZ := Lib.hid hgz
  have HG := Lib.hid hg
  clear hgz hg h henv
  go_enter Tryz.func8, Tryz.ntmps8
  go_wp2_with fail
  refine HG.out.mono ?_
  rintro e w2 ⟨hb, hc0, rfl⟩
  have hgz2 : GZ w w2 := HGZ.out.later (by rw [World.size_alloc]; exact hb)
  have hz := (hgz2.later ((Below.refl w2.heap.size w2).alloc (Nat.le_refl _) (.cells #[.int .i64 0, .string ⟨#[]⟩, .int .i64 0, .slice none 0 0] 45)))
  obtain ⟨z0, z1, z2, z3, z4⟩ := hz.1.at
  obtain ⟨f0, f1, f2, f3, f4⟩ := hz.1.free
  have HS := Lib.hid (hz.store 0 [] none 0 0 none 0 0 0)
  have ec : (c == 0) = false := by rw [beq_eq_false_iff_ne]; exact hc0
  have hc1 : ¬ c = 0 := hc0
  clear hb hgz2 hz HG HGZ hcv hc0
  go_wp2
  exact bodyPost_ret (results_cellt rfl rfl (loadVarI HS.out.1)) rfl ⟨HS.out.2.1, rfl⟩

theorem read_len {ss : List (List UInt8)} {i : It.I} (h : Dp.readS ss = some i) : i.f.length ≤ ss.length ∧ i.l.length ≤ ss.length := by
  have hp : ∀ l : List (List UInt8), (Dp.pairsS l).length ≤ l.length := by
    intro l
    induction l using Dp.pairsS.induct with
    | case1 a b l ih => rw [Dp.pairsS]; simp only [List.length_cons]; omega
    | case2 l h => rw [Dp.pairsS.eq_2 _ h]; simp
  unfold Dp.readS at h
  have hd : (ss.drop 2).length ≤ ss.length := by rw [List.length_drop]; omega
  have hpd := hp (ss.drop 2)
  split at h
  · cases h
  · split at h
    · unfold Dp.filledS at h
      split at h
      · split at h
        · cases h; exact ⟨Nat.zero_le _, Nat.zero_le _⟩
        · cases h
      · split at h
        · split at h
          · cases h; exact ⟨by show (Dp.pairsS (ss.drop 2)).length ≤ _; omega, Nat.zero_le _⟩
          · cases h
        · split at h
          · cases h; exact ⟨Nat.zero_le _, hd⟩
          · cases h
    · cases h

/-- what Get tells of the words. -/
def getW (X : List UInt8) (o : Option It.I) : Option It.I := match o with
  | none => none
  | some i => if Dp.putS i = X then some i else none

set_option maxRecDepth 100000 in
set_option maxHeartbeats 2000000 in
theorem dget_ok (X : List UInt8) (w : World) (hl : X.length ≤ 1000000) (henv : Env w) (r : Rp.R) (t : List UInt8) (h : Rp.replyD 8 X = .ok r t) : Calls Tryz.prog 8 #[.string ⟨X.toArray⟩] w (IOut (getW X (Dp.readS (r.l.map (·.s)))) w) := by
  have hgz := GZ.new w
  have hg := get_str X hl _ (henv.later (hgz.2))
  rw [h, World.size_alloc] at hg
  dsimp only at hg
  have hcv := sb_conv (w.alloc (itc 0 [] none 0 0 none 0 0 0)) X
  rw [World.size_alloc] at hcv
  obtain ⟨ss, hss⟩ : ∃ ss, r.l.map (·.s) = ss := ⟨_, rfl⟩
  have hm : r.l.length = ss.length := by rw [← hss, List.length_map]
  rw [hss] at hg ⊢
  rw [hm] at hg
  unfold itc at hgz hg hcv
  have HGZ := Lib.hid hgz
  have HG := Lib.hid hg
  have HENV := Lib.hid henv
  generalize r.k = rk at *
  generalize r.s = rs at *
  generalize r.n = rn at *
  obtain ⟨nx, hnx⟩ : ∃ nx : Int, (X.length : Int) - (t.length : Int) = nx := ⟨_, rfl⟩
  rw [hnx] at HG
  have HRd := Lib.hid (fun W a c (hr : Rps W a c ss) (hn : ss.length ≤ 1000000) => read_any a c ss W hr hn)
  obtain ⟨m, hmm⟩ : ∃ m, ss.length = m := ⟨_, rfl⟩
  rw [hmm] at HG HRd
  have hbd := fun i (h : Dp.readS ss = some i) => read_len h
  generalize hro : Dp.readS ss = o at HRd hbd ⊢
  rw [hmm] at hbd
  obtain ⟨G, hG⟩ : ∃ G, getW X o = G := ⟨_, rfl⟩
  rw [hG]
  have HGW := Lib.hid hG
  clear hG
  clear hgz hg h henv hss hm hmm hnx hro
  go_enter Tryz.func8, Tryz.ntmps8
  go_wp2_with fail
  refine HG.out.mono ?_
  rintro e w2 ⟨hb, a, c, rfl, hrps, hlen⟩
  have hgz2 : GZ w w2 := HGZ.out.later (by rw [World.size_alloc]; exact hb)
  have hal := (Below.refl w2.heap.size w2).alloc (Nat.le_refl _) (.cells #[.int .i64 rk, .string ⟨rs.toArray⟩, .int .i64 rn, .slice a m c] 45)
  have HR2 := Lib.hid (HRd.out _ a c (hrps.later hal) (by omega))
  have HGZ3 := Lib.hid (hgz2.later hal)
  have hx3 := cell_of_row _ _ 3 _ _ _ (World.alloc_heap_new w2 (.cells #[.int .i64 rk, .string ⟨rs.toArray⟩, .int .i64 rn, .slice a m c] 45))
  clear hb hgz2 hrps HG HGZ hcv hal HRd
  go_wp2_with fail
  refine HR2.out.mono ?_
  cases o with
  | none =>
    obtain rfl : G = none := HGW.out.symm
    rintro e w4 ⟨hb, rfl⟩
    have hgz4 : GZ w w4 := HGZ3.out.later hb
    have hz := hgz4.later ((Below.refl w4.heap.size w4).alloc (Nat.le_refl _) (itc 0 [] none 0 0 none 0 0 0))
    unfold itc at hz
    obtain ⟨z0, z1, z2, z3, z4⟩ := hz.1.at
    obtain ⟨f0, f1, f2, f3, f4⟩ := hz.1.free
    have HS := Lib.hid (hz.store 0 [] none 0 0 none 0 0 0)
    clear hb hgz4 hz HR2 HGZ3 hx3
    unfold itv
    go_wp2
    exact bodyPost_ret (results_cellt rfl rfl (loadVarI HS.out.1)) rfl ⟨HS.out.2.1, rfl⟩
  | some i =>
    obtain ⟨k, s, f, l, x⟩ := i
    rintro e w4 ⟨hb, aF, cF, aL, cL, rfl, hF, hL, hnn, hfF, hfL⟩
    simp only at hF hL ⊢
    have hgz4 : GZ w w4 := HGZ3.out.later hb
    have hsz : w.heap.size < w4.heap.size := hgz4.1.lt
    have hal := (Below.refl w4.heap.size w4).alloc (Nat.le_refl _) (itc k s aF f.length cF aL l.length cL x)
    have hbx := ItBox.new w4 k s aF f.length cF aL l.length cL x
    have hgz5 := hgz4.later hal
    obtain ⟨hfl, hll⟩ := hbd _ rfl
    simp only at hfl hll
    have hF5 := hF.later hal
    have hL5 := hL.later hal
    have hpu := dput_any k x s aF cF f aL cL l _ hF5 hL5 (by omega) (by omega) (HENV.out.later hgz5.2)
    rw [World.size_alloc] at hfF hfL
    have hsz2 : w.heap.size < w2.heap.size + 1 := by rw [World.size_alloc] at hb; have := HGZ3.out.1.lt; rw [World.size_alloc] at this; omega
    have HFar := Lib.hid (And.intro (fun b off e => by have := hfF b off e; omega : ∀ b off, aF = some ⟨b, off, none⟩ → w.heap.size < b) (fun b off e => by have := hfL b off e; omega : ∀ b off, aL = some ⟨b, off, none⟩ → w.heap.size < b))
    have HNN := Lib.hid hnn
    have HFL := Lib.hid (And.intro hF5 hL5)
    have HBX := Lib.hid (And.intro hbx hgz5)
    clear hF hL hF5 hL5 hfF hfL hnn hb hgz4 hal hbx hgz5 HR2 HGZ3 hx3 hbd
    unfold itc at hpu HFL HBX
    unfold itv at hpu ⊢
    by_cases hp : Dp.putS ⟨k, s, f, l, x⟩ = X
    · obtain rfl : G = some ⟨k, s, f, l, x⟩ := HGW.out.symm.trans (if_pos hp)
      rw [hp] at hpu
      have HPu := Lib.hid hpu
      clear hpu hp HGW
      go_wp2_with fail
      refine HPu.out.mono ?_
      rintro e w6 ⟨rfl, hb6⟩
      have hx6 := HBX.out.1.later hb6
      have hgz6 := HBX.out.2.later hb6
      obtain ⟨b0, b1, b2, b3, b4⟩ := hx6.at
      obtain ⟨z0, z1, z2, z3, z4⟩ := hgz6.1.at
      obtain ⟨f0, f1, f2, f3, f4⟩ := hgz6.1.free
      have hst := hgz6.store k s aF f.length cF aL l.length cL x
      have HS := Lib.hid hst
      have HE := Lib.hid (And.intro ((HFL.out.1.later hb6).far hst.2.2 HFar.out.1) ((HFL.out.2.later hb6).far hst.2.2 HFar.out.2))
      clear hx6 hgz6 hst hb6 HPu HBX HFL
      go_wp2
      exact bodyPost_ret (results_cellt rfl rfl (loadVarI HS.out.1)) rfl ⟨HS.out.2.1, aF, cF, aL, cL, rfl, HE.out.1, HE.out.2, HNN.out, fun b off e => Nat.le_of_lt (HFar.out.1 b off e), fun b off e => Nat.le_of_lt (HFar.out.2 b off e)⟩
    · obtain rfl : G = none := HGW.out.symm.trans (if_neg hp)
      clear HGW
      obtain ⟨P, hP⟩ : ∃ P : List UInt8, Dp.putS ⟨k, s, f, l, x⟩ = P := ⟨_, rfl⟩
      rw [hP] at hp hpu
      have hpb : (P == X) = false := beq_eq_false_iff_ne.2 hp
      clear hP
      have HPu := Lib.hid hpu
      clear hpu
      go_wp2_with fail
      refine HPu.out.mono ?_
      rintro e w6 ⟨rfl, hb6⟩
      have hgz6 := HBX.out.2.later hb6
      obtain ⟨z0, z1, z2, z3, z4⟩ := hgz6.1.at
      obtain ⟨f0, f1, f2, f3, f4⟩ := hgz6.1.free
      have HS := Lib.hid (hgz6.store 0 [] none 0 0 none 0 0 0)
      clear hgz6 hb6 HPu HBX HFL
      go_wp2
      exact bodyPost_ret (results_cellt rfl rfl (loadVarI HS.out.1)) rfl ⟨HS.out.2.1, rfl⟩

/-- Get: the item whose Put the string is. -/
theorem dget_any (X : List UInt8) (w : World) (hl : X.length ≤ 1000000) (henv : Env w) : Calls Tryz.prog 8 #[.string ⟨X.toArray⟩] w (IOut (Dp.getS X) w) := by
  rw [← Dp.dev_get]
  cases h : Rp.replyD 8 X with
  | err c =>
    rw [show Dp.devS X = none by unfold Dp.devS; rw [h]]
    exact dget_err X w hl henv c h
  | ok r t =>
    rw [show Dp.devS X = getW X (Dp.readS (r.l.map (·.s))) by unfold Dp.devS getW; rw [h]; rfl]
    exact dget_ok X w hl henv r t h
end Go.Proofs.YtbkhnnjjpelfcaaGreatDoor
