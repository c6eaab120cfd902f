/- The contract of Get (10.1). The contract of the statements' own awake; cells that stay. -/
import Derived.Test.YtbkhnnjjpelfcaaGreatDoorDpRead
import Derived.Test.YtbkhnnjjpelfcaaGreatDoorDpPut
import Derived.Test.YtbkhnnjjpelfcaaGreatDoorRpGet
namespace Go.Proofs.YtbkhnnjjpelfcaaGreatDoor
open Go.RowKit Go.Shelf
attribute [local go_sem] Oper.semAt_some
set_option linter.unusedVariables false
set_option linter.unusedSimpArgs false

/-- what the bytes of a string tell. -/
theorem get_str (X : List UInt8) (hl : X.length ≤ 1000000) (W : World) (henv : Env W) :
    Calls Tryz.prog 14 #[.slice (some ⟨W.heap.size, 0, none⟩) X.length (capS W X), .int .i64 0] (Lib.bytesWorld W 5 ⟨X.toArray⟩) fun e W' => Below W.heap.size W W' ∧ match Rp.replyD 8 X with
      | .ok r t => ∃ a c, e = .returned (.tuple #[.agg #[.int .i64 r.k, .string ⟨r.s.toArray⟩, .int .i64 r.n, .slice a r.l.length c], .int .i64 ((X.length : Int) - (t.length : Int)), .int .i64 0]) ∧ Rps W' a c (r.l.map (·.s)) ∧ r.l.length ≤ 65536
      | .err c => c ≠ 0 ∧ e = .returned (.tuple #[.agg #[.int .i64 0, .string ⟨#[]⟩, .int .i64 0, .slice none 0 0], .int .i64 0, .int .i64 c]) := by
  have hb := Lib.bytesWorld_below W 5 ⟨X.toArray⟩
  have hg := get_any X 0 _ _ _ (by omega) (by decide) (by decide) (sb_bt W X (by omega) ⟨grownCap_ge _ _ _ _, by
    have := grownCap_le_maxLen W X.length 0 5 (by unfold maxLen; omega)
    unfold capS
    unfold maxLen at this
    omega⟩) (henv.later hb)
  have e : getO X 0 = Rp.replyD 8 X := by
    unfold getO
    rw [if_neg (by omega)]
    rfl
  rw [e] at hg
  refine hg.mono ?_
  rintro e W' ⟨hb2, h⟩
  refine ⟨hb.trans (hb2.mono hb.size), ?_⟩
  cases hr : Rp.replyD 8 X with
  | err c => rw [hr] at h; exact h
  | ok r t =>
    rw [hr] at h
    obtain ⟨k, s, m, a, l, cap, rfl, hrep⟩ := h
    have hsm := Rp.replyD_s 8 X r t hr
    obtain ⟨e1, e2, e3, e4, e5⟩ := rps_of_rep hrep hsm hl
    simp only [Value.int.injEq, true_and, Value.string.injEq] at e1 e2 e3
    subst e1 e2 e3 e4
    exact ⟨a, cap, rfl, e5, hsm.2.1⟩

/-- the result's box, zero, and what was there. -/
def GZ (w W : World) : Prop := ItBox W w.heap.size 0 [] none 0 0 none 0 0 0 ∧ Below w.heap.size w W
theorem GZ.later {w W W' : World} (h : GZ w W) (hb : Below W.heap.size W W') : GZ w W' := ⟨h.1.later hb, h.2.trans (hb.mono h.2.size)⟩
theorem GZ.new (w : World) : GZ w (w.alloc (itc 0 [] none 0 0 none 0 0 0)) := ⟨ItBox.new w 0 [] none 0 0 none 0 0 0, (Below.refl _ w).alloc (Nat.le_refl _) _⟩
theorem GZ.store {w W : World} (h : GZ w W) (k : Int) (s : List UInt8) (aF : Option Addr) (nF cF : Nat) (aL : Option Addr) (nL cL : Nat) (x : Int) :
    ItBox (stIt W w.heap.size k s aF nF cF aL nL cL x) w.heap.size k s aF nF cF aL nL cL x ∧ Below w.heap.size w (stIt W w.heap.size k s aF nF cF aL nL cL x) ∧ Keeps (fun j => j ≠ w.heap.size) W (stIt W w.heap.size k s aF nF cF aL nL cL x) :=
  ⟨h.1.store k s aF nF cF aL nL cL x, below_stIt h.2 (Nat.le_refl _) k s aF nF cF aL nL cL x, (Keeps.refl _ W).stIt (.inr fun h => h rfl) k s aF nF cF aL nL cL x⟩

set_option maxRecDepth 100000 in
set_option maxHeartbeats 1000000 in
theorem dget_err (X : List UInt8) (w : World) (hl : X.length ≤ 1000000) (henv : Env w) (c : Int) (h : Rp.replyD 8 X = .err c) : Calls Tryz.prog 8 #[.string ⟨X.toArray⟩] w (IOut none w) := by
  have hgz := GZ.new w
  have hg := get_str X hl _ (henv.later (hgz.2))
  rw [h, World.size_alloc] at hg
  have hcv := sb_conv (w.alloc (itc 0 [] none 0 0 none 0 0 0)) X
  rw [World.size_alloc] at hcv
  unfold itc at hgz hg hcv
  have HGZ := Lib.hid hgz
  have HG := Lib.hid hg
  clear hgz hg h henv
  go_enter Tryz.func8, Tryz.ntmps8
  go_wp2_with fail
  refine HG.out.mono ?_
  rintro e w2 ⟨hb, hc0, rfl⟩
  have hgz2 : GZ w w2 := HGZ.out.later (by rw [World.size_alloc]; exact hb)
  have hz := (hgz2.later ((Below.refl w2.heap.size w2).alloc (Nat.le_refl _) (.cells #[.int .i64 0, .string ⟨#[]⟩, .int .i64 0, .slice none 0 0] 45)))
  obtain ⟨z0, z1, z2, z3, z4⟩ := hz.1.at
  obtain ⟨f0, f1, f2, f3, f4⟩ := hz.1.free
  have HS := Lib.hid (hz.store 0 [] none 0 0 none 0 0 0)
  have ec : (c == 0) = false := by rw [beq_eq_false_iff_ne]; exact hc0
  have hc1 : ¬ c = 0 := hc0
  clear hb hgz2 hz HG HGZ hcv hc0
  go_wp2
  exact bodyPost_ret (results_cellt rfl rfl (loadVarI HS.out.1)) rfl ⟨HS.out.2.1, rfl⟩

theorem read_len {ss : List (List UInt8)} {i : It.I} (h : Dp.readS ss = some i) : i.f.length ≤ ss.length ∧ i.l.length ≤ ss.length := by
  have hp : ∀ l : List (List UInt8), (Dp.pairsS l).length ≤ l.length := by
    intro l
    induction l using Dp.pairsS.induct with
    | case1 a b l ih => rw [Dp.pairsS]; simp only [List.length_cons]; omega
    | case2 l h => rw [Dp.pairsS.eq_2 _ h]; simp
  unfold Dp.readS at h
  have hd : (ss.drop 2).length ≤ ss.length := by rw [List.length_drop]; omega
  have hpd := hp (ss.drop 2)
  split at h
  · cases h
  · split at h
    · unfold Dp.filledS at h
      split at h
      · split at h
        · cases h; exact ⟨Nat.zero_le _, Nat.zero_le _⟩
        · cases h
      · split at h
        · split at h
          · cases h; exact ⟨by show (Dp.pairsS (ss.drop 2)).length ≤ _; omega, Nat.zero_le _⟩
          · cases h
        · split at h
          · cases h; exact ⟨Nat.zero_le _, hd⟩
          · cases h
    · cases h

/-- what Get tells of the words. -/
def getW (X : List UInt8) (o : Option It.I) : Option It.I := match o with
  | none => none
  | some i => if Dp.putS i = X then some i else none

set_option maxRecDepth 100000 in
set_option maxHeartbeats 2000000 in
theorem dget_ok (X : List UInt8) (w : World) (hl : X.length ≤ 1000000) (henv : Env w) (r : Rp.R) (t : List UInt8) (h : Rp.replyD 8 X = .ok r t) : Calls Tryz.prog 8 #[.string ⟨X.toArray⟩] w (IOut (getW X (Dp.readS (r.l.map (·.s)))) w) := by
  have hgz := GZ.new w
  have hg := get_str X hl _ (henv.later (hgz.2))
  rw [h, World.size_alloc] at hg
  dsimp only at hg
  have hcv := sb_conv (w.alloc (itc 0 [] none 0 0 none 0 0 0)) X
  rw [World.size_alloc] at hcv
  obtain ⟨ss, hss⟩ : ∃ ss, r.l.map (·.s) = ss := ⟨_, rfl⟩
  have hm : r.l.length = ss.length := by rw [← hss, List.length_map]
  rw [hss] at hg ⊢
  rw [hm] at hg
  unfold itc at hgz hg hcv
  have HGZ := Lib.hid hgz
  have HG := Lib.hid hg
  have HENV := Lib.hid henv
  generalize r.k = rk at *
  generalize r.s = rs at *
  generalize r.n = rn at *
  obtain ⟨nx, hnx⟩ : ∃ nx : Int, (X.length : Int) - (t.length : Int) = nx := ⟨_, rfl⟩
  rw [hnx] at HG
  have HRd := Lib.hid (fun W a c (hr : Rps W a c ss) (hn : ss.length ≤ 1000000) => read_any a c ss W hr hn)
  obtain ⟨m, hmm⟩ : ∃ m, ss.length = m := ⟨_, rfl⟩
  rw [hmm] at HG HRd
  have hbd := fun i (h : Dp.readS ss = some i) => read_len h
  generalize hro : Dp.readS ss = o at HRd hbd ⊢
  rw [hmm] at hbd
  obtain ⟨G, hG⟩ : ∃ G, getW X o = G := ⟨_, rfl⟩
  rw [hG]
  have HGW := Lib.hid hG
  clear hG
  clear hgz hg h henv hss hm hmm hnx hro
  go_enter Tryz.func8, Tryz.ntmps8
  go_wp2_with fail
  refine HG.out.mono ?_
  rintro e w2 ⟨hb, a, c, rfl, hrps, hlen⟩
  have hgz2 : GZ w w2 := HGZ.out.later (by rw [World.size_alloc]; exact hb)
  have hal := (Below.refl w2.heap.size w2).alloc (Nat.le_refl _) (.cells #[.int .i64 rk, .string ⟨rs.toArray⟩, .int .i64 rn, .slice a m c] 45)
  have HR2 := Lib.hid (HRd.out _ a c (hrps.later hal) (by omega))
  have HGZ3 := Lib.hid (hgz2.later hal)
  have hx3 := cell_of_row _ _ 3 _ _ _ (World.alloc_heap_new w2 (.cells #[.int .i64 rk, .string ⟨rs.toArray⟩, .int .i64 rn, .slice a m c] 45))
  clear hb hgz2 hrps HG HGZ hcv hal HRd
  go_wp2_with fail
  refine HR2.out.mono ?_
  cases o with
  | none =>
    obtain rfl : G = none := HGW.out.symm
    rintro e w4 ⟨hb, rfl⟩
    have hgz4 : GZ w w4 := HGZ3.out.later hb
    have hz := hgz4.later ((Below.refl w4.heap.size w4).alloc (Nat.le_refl _) (itc 0 [] none 0 0 none 0 0 0))
    unfold itc at hz
    obtain ⟨z0, z1, z2, z3, z4⟩ := hz.1.at
    obtain ⟨f0, f1, f2, f3, f4⟩ := hz.1.free
    have HS := Lib.hid (hz.store 0 [] none 0 0 none 0 0 0)
    clear hb hgz4 hz HR2 HGZ3 hx3
    unfold itv
    go_wp2
    exact bodyPost_ret (results_cellt rfl rfl (loadVarI HS.out.1)) rfl ⟨HS.out.2.1, rfl⟩
  | some i =>
    obtain ⟨k, s, f, l, x⟩ := i
    rintro e w4 ⟨hb, aF, cF, aL, cL, rfl, hF, hL, hnn, hfF, hfL⟩
    simp only at hF hL ⊢
    have hgz4 : GZ w w4 := HGZ3.out.later hb
    have hsz : w.heap.size < w4.heap.size := hgz4.1.lt
    have hal := (Below.refl w4.heap.size w4).alloc (Nat.le_refl _) (itc k s aF f.length cF aL l.length cL x)
    have hbx := ItBox.new w4 k s aF f.length cF aL l.length cL x
    have hgz5 := hgz4.later hal
    obtain ⟨hfl, hll⟩ := hbd _ rfl
    simp only at hfl hll
    have hF5 := hF.later hal
    have hL5 := hL.later hal
    have hpu := dput_any k x s aF cF f aL cL l _ hF5 hL5 (by omega) (by omega) (HENV.out.later hgz5.2)
    rw [World.size_alloc] at hfF hfL
    have hsz2 : w.heap.size < w2.heap.size + 1 := by rw [World.size_alloc] at hb; have := HGZ3.out.1.lt; rw [World.size_alloc] at this; omega
    have HFar := Lib.hid (And.intro (fun b off e => by have := hfF b off e; omega : ∀ b off, aF = some ⟨b, off, none⟩ → w.heap.size < b) (fun b off e => by have := hfL b off e; omega : ∀ b off, aL = some ⟨b, off, none⟩ → w.heap.size < b))
    have HNN := Lib.hid hnn
    have HFL := Lib.hid (And.intro hF5 hL5)
    have HBX := Lib.hid (And.intro hbx hgz5)
    clear hF hL hF5 hL5 hfF hfL hnn hb hgz4 hal hbx hgz5 HR2 HGZ3 hx3 hbd
    unfold itc at hpu HFL HBX
    unfold itv at hpu ⊢
    by_cases hp : Dp.putS ⟨k, s, f, l, x⟩ = X
    · obtain rfl : G = some ⟨k, s, f, l, x⟩ := HGW.out.symm.trans (if_pos hp)
      rw [hp] at hpu
      have HPu := Lib.hid hpu
      clear hpu hp HGW
      go_wp2_with fail
      refine HPu.out.mono ?_
      rintro e w6 ⟨rfl, hb6⟩
      have hx6 := HBX.out.1.later hb6
      have hgz6 := HBX.out.2.later hb6
      obtain ⟨b0, b1, b2, b3, b4⟩ := hx6.at
      obtain ⟨z0, z1, z2, z3, z4⟩ := hgz6.1.at
      obtain ⟨f0, f1, f2, f3, f4⟩ := hgz6.1.free
      have hst := hgz6.store k s aF f.length cF aL l.length cL x
      have HS := Lib.hid hst
      have HE := Lib.hid (And.intro ((HFL.out.1.later hb6).far hst.2.2 HFar.out.1) ((HFL.out.2.later hb6).far hst.2.2 HFar.out.2))
      clear hx6 hgz6 hst hb6 HPu HBX HFL
      go_wp2
      exact bodyPost_ret (results_cellt rfl rfl (loadVarI HS.out.1)) rfl ⟨HS.out.2.1, aF, cF, aL, cL, rfl, HE.out.1, HE.out.2, HNN.out, fun b off e => Nat.le_of_lt (HFar.out.1 b off e), fun b off e => Nat.le_of_lt (HFar.out.2 b off e)⟩
    · obtain rfl : G = none := HGW.out.symm.trans (if_neg hp)
      clear HGW
      obtain ⟨P, hP⟩ : ∃ P : List UInt8, Dp.putS ⟨k, s, f, l, x⟩ = P := ⟨_, rfl⟩
      rw [hP] at hp hpu
      have hpb : (P == X) = false := beq_eq_false_iff_ne.2 hp
      clear hP
      have HPu := Lib.hid hpu
      clear hpu
      go_wp2_with fail
      refine HPu.out.mono ?_
      rintro e w6 ⟨rfl, hb6⟩
      have hgz6 := HBX.out.2.later hb6
      obtain ⟨z0, z1, z2, z3, z4⟩ := hgz6.1.at
      obtain ⟨f0, f1, f2, f3, f4⟩ := hgz6.1.free
      have HS := Lib.hid (hgz6.store 0 [] none 0 0 none 0 0 0)
      clear hgz6 hb6 HPu HBX HFL
      go_wp2
      exact bodyPost_ret (results_cellt rfl rfl (loadVarI HS.out.1)) rfl ⟨HS.out.2.1, rfl⟩

/-- Get: the item whose Put the string is. -/
theorem dget_any (X : List UInt8) (w : World) (hl : X.length ≤ 1000000) (henv : Env w) : Calls Tryz.prog 8 #[.string ⟨X.toArray⟩] w (IOut (Dp.getS X) w) := by
  rw [← Dp.dev_get]
  cases h : Rp.replyD 8 X with
  | err c =>
    rw [show Dp.devS X = none by unfold Dp.devS; rw [h]]
    exact dget_err X w hl henv c h
  | ok r t =>
    rw [show Dp.devS X = getW X (Dp.readS (r.l.map (·.s))) by unfold Dp.devS getW; rw [h]; rfl]
    exact dget_ok X w hl henv r t h
end Go.Proofs.YtbkhnnjjpelfcaaGreatDoor
namespace Go.Proofs.YtbkhnnjjpelfcaaGreatDoor
open Go.RowKit Go.Shelf
attribute [local go_sem] Oper.semAt_some
set_option linter.unusedVariables false
set_option linter.unusedSimpArgs false

theorem same_eq {i j : It.I} : It.sameB i j = true ↔ i = j := by
  obtain ⟨k, s, f, l, x⟩ := i
  obtain ⟨k', s', f', l', x'⟩ := j
  simp only [It.sameB, Bool.and_eq_true, decide_eq_true_eq, It.I.mk.injEq]
  constructor
  · rintro ⟨⟨⟨⟨h1, h2⟩, h3⟩, h4⟩, h5⟩; exact ⟨h1, h2, h3, h4, h5⟩
  · rintro ⟨h1, h2, h3, h4, h5⟩; exact ⟨⟨⟨⟨h1, h2⟩, h3⟩, h4⟩, h5⟩
theorem same_iff {i j : It.I} (hi : It.mayB i = true) : It.sameB i j = (Dp.putS i == Dp.putS j) := by
  rw [Bool.eq_iff_iff, same_eq, beq_iff_eq]
  exact ⟨fun h => by rw [h], fun h => Dp.put_inj hi h⟩
theorem may_lens {i : It.I} (h : It.mayB i = true) : i.f.length ≤ 40 ∧ i.l.length ≤ 40 := by
  obtain ⟨-, -, -, c⟩ := Dp.may_cases h
  rcases c with ⟨-, h1, h2⟩ | ⟨-, -, -, h1, -, h2⟩ | ⟨-, -, h1, -, h2⟩
  · rw [h1, h2]; simp
  · rw [h2]; exact ⟨h1, by simp⟩
  · rw [h1]; exact ⟨by simp, h2⟩
theorem put_zero : Dp.putS ⟨0, [], [], [], 0⟩ = [] := rfl
theorem aw_may : It.mayB ⟨1, [120], [], [], 3⟩ = true := by decide
theorem put_len {i : It.I} : (Dp.putS i).length ≤ 30002 := by
  unfold Dp.putS
  split
  · rename_i h; exact Dp.dump_len h
  · simp
theorem get_putS {i : It.I} (h : It.mayB i = true) : Dp.getS (Dp.putS i) = some i := by unfold Dp.putS; rw [if_pos h]; exact Dp.get_dump h

set_option maxRecDepth 100000 in
set_option maxHeartbeats 2000000 in
theorem awake_any (w : World) (henv : Env w) : Calls Tryz.prog 7 #[] w fun e W' => e = .returned (.bool true) ∧ Below w.heap.size w W' := by
  have hp0 := fun W (h : Env W) => dput_any 0 0 [] none 0 [] none 0 [] W (fds_nil W) (wds_nil W) (by decide) (by decide) h
  have hp1 := dput_any 1 3 [120] none 0 [] none 0 [] w (fds_nil w) (wds_nil w) (by decide) (by decide) henv
  rw [put_zero] at hp0
  have hg := fun W (h : Env W) => dget_any (Dp.putS ⟨1, [120], [], [], 3⟩) W (by have := put_len (i := ⟨1, [120], [], [], 3⟩); omega) h
  rw [get_putS aw_may] at hg
  obtain ⟨P, hP⟩ : ∃ P, Dp.putS ⟨1, [120], [], [], 3⟩ = P := ⟨_, rfl⟩
  rw [hP] at hp1 hg
  clear hP
  unfold itv at hp0 hp1
  simp only [List.length_nil] at hp0 hp1
  have HP0 := Lib.hid hp0
  have HP1 := Lib.hid hp1
  have HG := Lib.hid hg
  have HE := Lib.hid henv
  clear hp0 hp1 hg henv
  go_enter Tryz.func7, Tryz.ntmps7
  go_wp2_with fail
  refine HP1.out.mono ?_
  rintro e w1 ⟨rfl, hb⟩
  have HB1 := Lib.hid hb
  clear hb HP1
  go_wp2_with fail
  refine (HG.out w1 (HE.out.later HB1.out)).mono ?_
  rintro e w2 ⟨hb, aF, cF, aL, cL, rfl, -, -, -⟩
  have hB2 := HB1.out.trans (hb.mono HB1.out.size)
  have hb3 := hB2.alloc hB2.size (.cells #[.int .i64 1, .string ⟨#[120]⟩, .slice aF 0 cF, .slice aL 0 cL, .int .i64 3] 25)
  have hx3 : ItBox (w2.alloc (.cells #[.int .i64 1, .string ⟨#[120]⟩, .slice aF 0 cF, .slice aL 0 cL, .int .i64 3] 25)) w2.heap.size 1 [120] aF 0 cF aL 0 cL 3 := ItBox.new w2 1 [120] aF 0 cF aL 0 cL 3
  have HX3 := Lib.hid hx3
  have HB3 := Lib.hid hb3
  clear hb hB2 hb3 hx3 HG HB1
  unfold itv
  go_wp2_with fail
  refine (HP0.out _ (HE.out.later HB3.out)).mono ?_
  rintro e w4 ⟨rfl, hb⟩
  obtain ⟨c0, c1, c2, c3, c4⟩ := (HX3.out.later hb).at
  have HB4 := Lib.hid (HB3.out.trans (hb.mono HB3.out.size))
  clear hb HX3 HB3 HP0
  go_wp2
  go_ret
  exact ⟨rfl, HB4.out⟩

theorem dp_cell {A B : World} {p : Addr} {v : Value} (h : A.cell? p = some v) (hb : Below A.heap.size A B) : B.cell? p = some v := (hb.cell (World.block_lt_of_cell? A p h)).trans h
theorem tenS_next {W A B : World} {p0 p1 p2 p3 p4 p5 p6 p7 p8 p9 : Addr} {v0 v1 v2 v3 v4 v5 v6 v7 v8 v9 : Value} (h : A.cell? p0 = some v0 ∧ A.cell? p1 = some v1 ∧ A.cell? p2 = some v2 ∧ A.cell? p3 = some v3 ∧ A.cell? p4 = some v4 ∧ A.cell? p5 = some v5 ∧ A.cell? p6 = some v6 ∧ A.cell? p7 = some v7 ∧ A.cell? p8 = some v8 ∧ A.cell? p9 = some v9 ∧ Below W.heap.size W A) (hb : Below A.heap.size A B) :
    B.cell? p0 = some v0 ∧ B.cell? p1 = some v1 ∧ B.cell? p2 = some v2 ∧ B.cell? p3 = some v3 ∧ B.cell? p4 = some v4 ∧ B.cell? p5 = some v5 ∧ B.cell? p6 = some v6 ∧ B.cell? p7 = some v7 ∧ B.cell? p8 = some v8 ∧ B.cell? p9 = some v9 ∧ Below W.heap.size W B := by
  obtain ⟨h0, h1, h2, h3, h4, h5, h6, h7, h8, h9, h10⟩ := h
  exact ⟨dp_cell h0 hb, dp_cell h1 hb, dp_cell h2 hb, dp_cell h3 hb, dp_cell h4 hb, dp_cell h5 hb, dp_cell h6 hb, dp_cell h7 hb, dp_cell h8 hb, dp_cell h9 hb, h10.trans (hb.mono h10.size)⟩
end Go.Proofs.YtbkhnnjjpelfcaaGreatDoor
