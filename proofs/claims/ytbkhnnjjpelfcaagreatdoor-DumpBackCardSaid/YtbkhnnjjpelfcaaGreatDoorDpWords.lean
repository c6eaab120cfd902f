/- The contract of the iterator over the words of a valid item (10.1). -/
import Derived.Test.YtbkhnnjjpelfcaaGreatDoorItMay
import Derived.Test.YtbkhnnjjpelfcaaGreatDoorRpOwn
import Derived.Test.YtbkhnnjjpelfcaaGreatDoorDpPlain
namespace Go.Proofs.YtbkhnnjjpelfcaaGreatDoor
open Go.RowKit Go.Shelf
attribute [local go_sem] Oper.semAt_some
set_option linter.unusedVariables false
set_option linter.unusedSimpArgs false

theorem itoa_env (n : Int) (w : World) (h0 : -9223372036854775808 ≤ n) (h1 : n ≤ 9223372036854775807) (henv : Env w) :
    Calls Tryz.prog 41 #[.int .i64 n] w fun e w' => e = .returned (.string ⟨(Dig.dec n).toArray⟩) ∧ Below w.heap.size w w' := by
  refine (Tryz.strconv_Itoa n h0 h1 w henv.tab).mono ?_
  rintro e w4 ⟨rfl, k4, os4, rfl⟩
  exact ⟨by rw [show Lib.itoa n = Dig.dec n by
    unfold Lib.itoa Dig.dec
    by_cases h : n < 0
    · rw [if_pos h, if_pos h, digs_dec, show n.natAbs = (-n).toNat by omega]
    · rw [if_neg h, if_neg h, digs_dec]], Lib.below_grow w.heap.size w (Nat.le_refl _) k4 os4⟩

/-- the iterator's words. -/
def itemW (k x : Int) (s : List UInt8) (fs : List (List UInt8 × List UInt8)) (ws : List (List UInt8)) : List (List UInt8) := Dig.dec k :: Dig.dec x :: (if k = 1 then [s] else It.fieldsS fs ++ ws)
theorem words_item {k x : Int} {s : List UInt8} {fs : List (List UInt8 × List UInt8)} {ws : List (List UInt8)} (h : It.mayB ⟨k, s, fs, ws, x⟩ = true) : itemW k x s fs ws = Dp.wordsI ⟨k, s, fs, ws, x⟩ := by
  obtain ⟨-, -, -, c⟩ := Dp.may_cases h
  unfold itemW Dp.wordsI
  simp only at c ⊢
  rcases c with ⟨rfl, -⟩ | ⟨rfl, -, -, -, -, rfl⟩ | ⟨hk, -, rfl, -⟩
  · simp
  · rw [if_neg (by decide), if_neg (by decide), if_pos rfl, List.append_nil]
  · rw [if_neg (by omega), if_neg (by omega), if_neg (by omega)]; simp [It.fieldsS]

set_option maxRecDepth 100000 in
set_option maxHeartbeats 8000000 in
theorem words_one (Bx : Nat) (s : List UInt8) (aF : Option Addr) (cF : Nat) (aL : Option Addr) (cL : Nat) (ex : Int) (w : World) (h1 : ItBox w Bx 1 s aF 0 cF aL 0 cL ex)
    (henv : Env w) (x0 : -9223372036854775808 ≤ ex) (x1 : ex ≤ 9223372036854775807) (Dt Pv : Nat → Prop) (hD0 : ∀ k, k < 8 → Dt k) (hD1 : Dt Bx) :
    SeqT true Tryz.prog 40 #[.pointer (some ⟨Bx, 0, none⟩)] encW Dt Pv (fun ys => ys = [Dig.dec 1, Dig.dec ex, s]) (fun p => p <+: [Dig.dec 1, Dig.dec ex, s]) 3 w := by
  intro l J Jx W hW hJ _ _ hY h0
  have hlt := h1.lt
  have hone := hlt
  have HBl := Lib.hid hW
  obtain ⟨c0, c1, c2, c3, c4⟩ := (h1.later hW).at
  have HY := Lib.hid hY
  have hWs := hW.size
  have HA := Lib.hid hJ
  have HD0 := Lib.hid hD0
  have HE := Lib.hid (henv.later hW)
  have HI1 := Lib.hid (fun A (he : Env A) => (callsIn_wide (n := 0)).2 (itoa_env 1 A (by decide) (by decide) he))
  have HI2 := Lib.hid (fun A (he : Env A) => (callsIn_wide (n := 0)).2 (itoa_env ex A x0 x1 he))
  have HJ0 := Lib.hid h0
  clear h1 hY hJ hW h0 henv x0 x1
  refine callsIn_of_wp Tryz.func40 rfl trivial ?_ rfl
  simp only [Tryz.ntmps40, List.size_toArray, List.length_cons, List.length_nil, Nat.reduceAdd, Nat.reduceSub, Array.replicate_succ, Array.replicate_zero, List.push_toArray, List.append_toArray, List.nil_append, List.cons_append]
  gi_wp2
  refine ⟨trivial, rfl, (HI1.out _ HE.out).mono ?_⟩
  rintro e W0 ⟨rfl, hb0⟩
  have hj0 := HA.out _ _ _ _ HJ0.out (Keeps.of_below hb0 fun _ h _ => h)
  obtain ⟨fn0, tmps0, assign0, body0, hy0, hR0⟩ := HY.out (fun _ => False) [] (Dig.dec 1) W0 (fun _ h => h.elim) hb0.size hj0 (by simp)
  have HR0 := Lib.hid hR0
  have HB0 := Lib.hid hb0
  unfold encW at hy0
  clear hR0 hb0 hj0 HJ0 HI1
  gi_wp2
  refine ⟨rfl, HR0.out.mono ?_⟩
  rintro e W1 ⟨hk1, O1, hg1, hout⟩
  obtain ⟨hO1, hK1⟩ := round_next (O := fun _ => False) (wr := W) (fun _ h => h.elim) HB0.out.size (Nat.le_refl _) rfl (Keeps.of_below HB0.out fun _ h _ => h) hk1 hg1
  have HK1 := Lib.hid hK1
  have HO1 := Lib.hid hO1
  have hs1 := hK1.size
  have d0 := (hK1.cell (p := ⟨Bx, 0, none⟩) (by simp; omega) hD1).trans c0
  have d1 := (hK1.cell (p := ⟨Bx, 1, none⟩) (by simp; omega) hD1).trans c1
  have d2 := (hK1.cell (p := ⟨Bx, 2, none⟩) (by simp; omega) hD1).trans c2
  have d3 := (hK1.cell (p := ⟨Bx, 3, none⟩) (by simp; omega) hD1).trans c3
  have d4 := (hK1.cell (p := ⟨Bx, 4, none⟩) (by simp; omega) hD1).trans c4
  have HE1 := Lib.hid (HE.out.keeps hK1 HD0.out)
  clear hk1 hg1 hK1 hO1 c0 c1 c2 c3 c4 hy0 HR0 HB0
  rcases hout with ⟨rfl, hj⟩ | ⟨rfl, hj⟩
  rotate_left
  · have HJ1 := Lib.hid hj
    clear hj
    gi_wp2
    refine ⟨trivial, ?_⟩
    gi_wp2
    refine ⟨fun _ h => (by cases h), ?_⟩
    gi_wp2
    refine bodyPost_ret (results_none rfl _ _ _) rfl ?_
    exact ⟨⟨_, rfl⟩, hs1, O1, HO1.out, .inr ⟨_, ⟨_, rfl⟩, HJ1.out⟩⟩
  have HJ1 := Lib.hid hj
  clear hj
  gi_wp2
  refine ⟨trivial, rfl, (HI2.out _ HE1.out).mono ?_⟩
  rintro e W2 ⟨rfl, hb2⟩
  have hj2 := HA.out _ _ _ _ HJ1.out (Keeps.of_below hb2 fun _ h _ => h)
  have hO1' := HO1.out
  obtain ⟨fn0, tmps0, assign0, body0, hy0, hR0⟩ := HY.out O1 [Dig.dec 1] (Dig.dec ex) W2 (fun j hj => ⟨(hO1' j hj).1, Nat.lt_of_lt_of_le (hO1' j hj).2 hb2.size⟩) (Nat.le_trans hs1 hb2.size) hj2 (by simp)
  have HR0 := Lib.hid hR0
  have HB2 := Lib.hid hb2
  unfold encW at hy0
  clear hR0 hb2 hj2 HI2 hO1'
  gi_wp2
  refine ⟨rfl, HR0.out.mono ?_⟩
  rintro e W3 ⟨hk3, O3, hg3, hout⟩
  obtain ⟨hO3, hK3⟩ := round_next HO1.out HB2.out.size hs1 rfl (HK1.out.trans (Keeps.of_below HB2.out fun _ h _ => h)) hk3 hg3
  have hK13 : Keeps Dt W1 W3 := (Keeps.of_below HB2.out fun _ h _ => h).trans (hk3.mono fun _ _ h => .inl h)
  have HK3 := Lib.hid hK3
  have HO3 := Lib.hid hO3
  have hs3 := hK3.size
  replace d0 := (hK13.cell (p := ⟨Bx, 0, none⟩) (by simp; omega) hD1).trans d0
  replace d1 := (hK13.cell (p := ⟨Bx, 1, none⟩) (by simp; omega) hD1).trans d1
  replace d2 := (hK13.cell (p := ⟨Bx, 2, none⟩) (by simp; omega) hD1).trans d2
  replace d3 := (hK13.cell (p := ⟨Bx, 3, none⟩) (by simp; omega) hD1).trans d3
  clear hk3 hg3 hK3 hO3 hy0 HR0 HB2 hK13 HK1 HO1 HJ1 d4 HE1 HE
  rcases hout with ⟨rfl, hj⟩ | ⟨rfl, hj⟩
  rotate_left
  · have HJ1 := Lib.hid hj
    clear hj
    gi_wp2
    refine bodyPost_ret (results_none rfl _ _ _) rfl ?_
    exact ⟨⟨_, rfl⟩, hs3, O3, HO3.out, .inr ⟨_, ⟨_, rfl⟩, HJ1.out⟩⟩
  have HJ3 := Lib.hid hj
  clear hj
  obtain ⟨fn0, tmps0, assign0, body0, hy0, hR0⟩ := HY.out O3 [Dig.dec 1, Dig.dec ex] s W3 HO3.out hs3 HJ3.out (by simp)
  have HR0 := Lib.hid hR0
  unfold encW at hy0
  clear hR0 HJ3
  gi_wp2
  refine ⟨rfl, HR0.out.mono ?_⟩
  rintro e W4 ⟨hk4, O4, hg4, hout⟩
  obtain ⟨hO4, hK4⟩ := round_next HO3.out (Nat.le_refl _) hs3 rfl HK3.out hk4 hg4
  have hK34 : Keeps Dt W3 W4 := hk4.mono fun _ _ h => .inl h
  have HK4 := Lib.hid hK4
  have HO4 := Lib.hid hO4
  have hs4 := hK4.size
  replace d2 := (hK34.cell (p := ⟨Bx, 2, none⟩) (by simp; omega) hD1).trans d2
  replace d3 := (hK34.cell (p := ⟨Bx, 3, none⟩) (by simp; omega) hD1).trans d3
  clear hk4 hg4 hK4 hO4 hy0 HR0 hK34 d0 d1
  rcases hout with ⟨rfl, hj⟩ | ⟨rfl, hj⟩
  rotate_left
  · have HJ1 := Lib.hid hj
    clear hj
    gi_wp2
    refine bodyPost_ret (results_none rfl _ _ _) rfl ?_
    exact ⟨⟨_, rfl⟩, hs4, O4, HO4.out, .inr ⟨_, ⟨[], rfl⟩, HJ1.out⟩⟩
  have HJ4 := Lib.hid hj
  clear hj
  gi_wp2
  gi_loopw [34] (fun i wr => i = .int .i64 0 ∧ wr = W4) (fun _ _ => 0)
  case atStart => exact ⟨rfl, rfl⟩
  case round =>
    obtain ⟨rfl, rfl⟩ := hrel
    gi_wp2
    gi_loopw [54] (fun i w9 => i = .int .i64 0 ∧ w9 = wr) (fun _ _ => 0)
    case atStart => exact ⟨rfl, rfl⟩
    case round =>
      obtain ⟨rfl, rfl⟩ := hrel
      gi_wp2
      go_end0
      exact ⟨⟨_, rfl⟩, hs4, O4, HO4.out, .inl ⟨_, rfl, HJ4.out⟩⟩

set_option maxRecDepth 100000 in
set_option maxHeartbeats 8000000 in
theorem words_many (Bx : Nat) (kind : Int) (s : List UInt8) (aF : Option Addr) (cF : Nat) (fs : List (List UInt8 × List UInt8)) (aL : Option Addr) (cL : Nat) (ws : List (List UInt8)) (ex : Int) (w : World) (h1 : ItBox w Bx kind s aF fs.length cF aL ws.length cL ex)
    (h2 : Fds w aF cF fs) (h3 : Wds w aL cL ws) (hn : fs.length ≤ 1000000) (hm : ws.length ≤ 1000000) (hk1 : ¬ kind = 1) (k0 : -9223372036854775808 ≤ kind) (k1 : kind ≤ 9223372036854775807) (henv : Env w) (x0 : -9223372036854775808 ≤ ex) (x1 : ex ≤ 9223372036854775807) (Dt Pv : Nat → Prop) (hD0 : ∀ k, k < 8 → Dt k) (hD1 : Dt Bx) (hD2 : ∀ b off, aF = some ⟨b, off, none⟩ → 0 < fs.length → Dt b) (hD3 : ∀ b off, aL = some ⟨b, off, none⟩ → 0 < ws.length → Dt b) :
    SeqT true Tryz.prog 40 #[.pointer (some ⟨Bx, 0, none⟩)] encW Dt Pv (fun ys => ys = Dig.dec kind :: Dig.dec ex :: (It.fieldsS fs ++ ws)) (fun p => p <+: Dig.dec kind :: Dig.dec ex :: (It.fieldsS fs ++ ws)) (3 + 2 * fs.length + ws.length) w := by
  intro l J Jx W hW hJ _ _ hY h0
  have hlt := h1.lt
  have HFd := Lib.hid h2
  have HWd := Lib.hid h3
  have HFL := Lib.hid (It.fieldsS_len fs)
  have hkb : (kind == 1) = false := by rw [beq_eq_false_iff_ne]; exact hk1
  have HBl := Lib.hid hW
  obtain ⟨c0, c1, c2, c3, c4⟩ := (h1.later hW).at
  have HY := Lib.hid hY
  have hWs := hW.size
  have HA := Lib.hid hJ
  have HD0 := Lib.hid hD0
  have HE := Lib.hid (henv.later hW)
  have HI1 := Lib.hid (fun A (he : Env A) => (callsIn_wide (n := 0)).2 (itoa_env kind A k0 k1 he))
  have HI2 := Lib.hid (fun A (he : Env A) => (callsIn_wide (n := 0)).2 (itoa_env ex A x0 x1 he))
  have HJ0 := Lib.hid h0
  clear h1 hY h2 h3 k0 k1 hJ hW h0 henv x0 x1
  refine callsIn_of_wp Tryz.func40 rfl trivial ?_ rfl
  simp only [Tryz.ntmps40, List.size_toArray, List.length_cons, List.length_nil, Nat.reduceAdd, Nat.reduceSub, Array.replicate_succ, Array.replicate_zero, List.push_toArray, List.append_toArray, List.nil_append, List.cons_append]
  gi_wp2
  refine ⟨trivial, rfl, (HI1.out _ HE.out).mono ?_⟩
  rintro e W0 ⟨rfl, hb0⟩
  have hj0 := HA.out _ _ _ _ HJ0.out (Keeps.of_below hb0 fun _ h _ => h)
  obtain ⟨fn0, tmps0, assign0, body0, hy0, hR0⟩ := HY.out (fun _ => False) [] (Dig.dec kind) W0 (fun _ h => h.elim) hb0.size hj0 (by simp; omega)
  have HR0 := Lib.hid hR0
  have HB0 := Lib.hid hb0
  unfold encW at hy0
  clear hR0 hb0 hj0 HJ0 HI1
  gi_wp2
  refine ⟨rfl, HR0.out.mono ?_⟩
  rintro e W1 ⟨hk1, O1, hg1, hout⟩
  obtain ⟨hO1, hK1⟩ := round_next (O := fun _ => False) (wr := W) (fun _ h => h.elim) HB0.out.size (Nat.le_refl _) rfl (Keeps.of_below HB0.out fun _ h _ => h) hk1 hg1
  have HK1 := Lib.hid hK1
  have HO1 := Lib.hid hO1
  have hs1 := hK1.size
  have d0 := (hK1.cell (p := ⟨Bx, 0, none⟩) (by simp; omega) hD1).trans c0
  have d1 := (hK1.cell (p := ⟨Bx, 1, none⟩) (by simp; omega) hD1).trans c1
  have d2 := (hK1.cell (p := ⟨Bx, 2, none⟩) (by simp; omega) hD1).trans c2
  have d3 := (hK1.cell (p := ⟨Bx, 3, none⟩) (by simp; omega) hD1).trans c3
  have d4 := (hK1.cell (p := ⟨Bx, 4, none⟩) (by simp; omega) hD1).trans c4
  have HE1 := Lib.hid (HE.out.keeps hK1 HD0.out)
  clear hk1 hg1 hK1 hO1 c0 c1 c2 c3 c4 hy0 HR0 HB0
  rcases hout with ⟨rfl, hj⟩ | ⟨rfl, hj⟩
  rotate_left
  · have HJ1 := Lib.hid hj
    clear hj
    gi_wp2
    refine ⟨trivial, ?_⟩
    gi_wp2
    refine ⟨fun _ h => (by cases h), ?_⟩
    gi_wp2
    refine bodyPost_ret (results_none rfl _ _ _) rfl ?_
    exact ⟨⟨_, rfl⟩, hs1, O1, HO1.out, .inr ⟨_, ⟨_, rfl⟩, HJ1.out⟩⟩
  have HJ1 := Lib.hid hj
  clear hj
  gi_wp2
  refine ⟨trivial, rfl, (HI2.out _ HE1.out).mono ?_⟩
  rintro e W2 ⟨rfl, hb2⟩
  have hj2 := HA.out _ _ _ _ HJ1.out (Keeps.of_below hb2 fun _ h _ => h)
  have hO1' := HO1.out
  obtain ⟨fn0, tmps0, assign0, body0, hy0, hR0⟩ := HY.out O1 [Dig.dec kind] (Dig.dec ex) W2 (fun j hj => ⟨(hO1' j hj).1, Nat.lt_of_lt_of_le (hO1' j hj).2 hb2.size⟩) (Nat.le_trans hs1 hb2.size) hj2 (by simp; omega)
  have HR0 := Lib.hid hR0
  have HB2 := Lib.hid hb2
  unfold encW at hy0
  clear hR0 hb2 hj2 HI2 hO1'
  gi_wp2
  refine ⟨rfl, HR0.out.mono ?_⟩
  rintro e W3 ⟨hk3, O3, hg3, hout⟩
  obtain ⟨hO3, hK3⟩ := round_next HO1.out HB2.out.size hs1 rfl (HK1.out.trans (Keeps.of_below HB2.out fun _ h _ => h)) hk3 hg3
  have hK13 : Keeps Dt W1 W3 := (Keeps.of_below HB2.out fun _ h _ => h).trans (hk3.mono fun _ _ h => .inl h)
  have HK3 := Lib.hid hK3
  have HO3 := Lib.hid hO3
  have hs3 := hK3.size
  replace d0 := (hK13.cell (p := ⟨Bx, 0, none⟩) (by simp; omega) hD1).trans d0
  replace d1 := (hK13.cell (p := ⟨Bx, 1, none⟩) (by simp; omega) hD1).trans d1
  replace d2 := (hK13.cell (p := ⟨Bx, 2, none⟩) (by simp; omega) hD1).trans d2
  replace d3 := (hK13.cell (p := ⟨Bx, 3, none⟩) (by simp; omega) hD1).trans d3
  clear hk3 hg3 hK3 hO3 hy0 HR0 HB2 hK13 HK1 HO1 HJ1 d4 HE1 HE
  rcases hout with ⟨rfl, hj⟩ | ⟨rfl, hj⟩
  rotate_left
  · have HJ1 := Lib.hid hj
    clear hj
    gi_wp2
    refine bodyPost_ret (results_none rfl _ _ _) rfl ?_
    exact ⟨⟨_, rfl⟩, hs3, O3, HO3.out, .inr ⟨_, ⟨_, rfl⟩, HJ1.out⟩⟩
  have HJ3 := Lib.hid hj
  clear hj
  gi_wp2
  refine ⟨fun _ h => (by cases h), ?_⟩
  gi_wp2
  obtain ⟨Pr, hPr⟩ : ∃ Pr, [Dig.dec kind, Dig.dec ex] = Pr := ⟨_, rfl⟩
  have hPl : Pr.length = 2 := by rw [← hPr]; rfl
  have hJP : J O3 Pr W3 := by rw [← hPr]; exact HJ3.out
  have HPr := Lib.hid (show Dig.dec kind :: Dig.dec ex :: (It.fieldsS fs ++ ws) = Pr ++ (It.fieldsS fs ++ ws) by rw [← hPr]; rfl)
  have HJ3 := Lib.hid hJP
  clear hPr hJP d0 d1
  gi_loopw [34] (fun i wr => ∃ (k : Nat) (O : Nat → Prop), i = .int .i64 k ∧ k ≤ fs.length ∧ (∀ k, O k → W.heap.size ≤ k ∧ k < wr.heap.size) ∧ J O (Pr ++ It.fieldsS (fs.take k)) wr ∧ Hid (Keeps Dt W wr) ∧ W.heap.size ≤ wr.heap.size ∧ wr.cell? ⟨Bx, 3, none⟩ = some (.slice aL ws.length cL)) (fun i _ => fs.length - (intOf i).toNat)
  case atStart => exact ⟨0, O3, rfl, Nat.zero_le _, HO3.out, by simpa [It.fieldsS] using HJ3.out, HK3, hs3, d3⟩
  case round =>
    clear HJ3 HK3 HO3 d2 d3 hs3
    obtain ⟨k, O, rfl, hk, hO, hJs, HK, hsz, d3⟩ := hrel
    have HJs := Lib.hid hJs
    clear hJs
    by_cases hlt2 : k < fs.length
    · obtain ⟨b, off, rfl, hb, hc⟩ := HFd.out.get (by omega)
      have hDb := hD2 b off rfl (by omega)
      have c1 := ((HK.out.cell (p := ⟨b, off + k * 2, none⟩) (by simp; omega) hDb).trans (HBl.out.cell (p := ⟨b, off + k * 2, none⟩) hb)).trans (hc k hlt2).1
      have c2 := ((HK.out.cell (p := ⟨b, off + k * 2 + 1, none⟩) (by simp; omega) hDb).trans (HBl.out.cell (p := ⟨b, off + k * 2 + 1, none⟩) hb)).trans (hc k hlt2).2
      have hwl : (fs.length : Int) ≤ 1000000 := by omega
      have hkI : (k : Int) < (fs.length : Int) := by omega
      have HT := Lib.hid (It.fieldsS_take fs hlt2)
      have hlen : (It.fieldsS (fs.take k)).length = 2 * k := by rw [It.fieldsS_len, List.length_take]; omega
      have HLen := Lib.hid hlen
      have HPre := Lib.hid ((List.prefix_append_right_inj Pr).2 ((It.fieldsS_pre fs (k + 1)).trans (List.prefix_append _ ws)))
      clear hc hlen
      generalize (fs.getD k ([], [])).1 = x at c1 HT
      generalize (fs.getD k ([], [])).2 = y at c2 HT
      have hJa := HA.out _ _ _ _ HJs.out ((Keeps.refl _ _).alloc (.cells #[.string ⟨x.toArray⟩, .string ⟨y.toArray⟩] 42))
      obtain ⟨fn, tmps, assign, body, hy, hR⟩ := HY.out O (Pr ++ It.fieldsS (fs.take k)) x (wr.alloc (.cells #[.string ⟨x.toArray⟩, .string ⟨y.toArray⟩] 42)) (fun j hj => ⟨(hO j hj).1, by have := (hO j hj).2; simp; omega⟩) (by simp; omega) hJa (by rw [List.length_append, HLen.out]; omega)
      have HR := Lib.hid hR
      clear hR hJa
      unfold encW at hy
      have hBx : Hid (∀ O, (∀ k, O k → W.heap.size ≤ k ∧ k < wr.heap.size) → RoundS Dt Pv W.heap.size O wr.heap.size) := Lib.hid fun O h => .inr (.inr ⟨hsz, fun hh => by have := (h _ hh).2; omega⟩)
      gi_wp2
      refine ⟨rfl, HR.out.mono ?_⟩
      rintro e W3 ⟨hk3, O', hg3, hout⟩
      obtain ⟨hO', hK3⟩ := round_next hO (by simp) hsz rfl (HK.out.alloc _) hk3 hg3
      have hcell : W3.cell? ⟨wr.heap.size, 1, none⟩ = some (.string ⟨y.toArray⟩) := (hk3.cell (p := ⟨wr.heap.size, 1, none⟩) (by simp) (hBx.out O hO)).trans (by simp [go_sem])
      have HK3 := Lib.hid hK3
      have HO' := Lib.hid hO'
      have hs3 := hK3.size
      have d33 : W3.cell? ⟨Bx, 3, none⟩ = some (.slice aL ws.length cL) := ((((Keeps.refl Dt wr).alloc _).trans (hk3.mono fun _ _ h => .inl h)).cell (p := ⟨Bx, 3, none⟩) (by simp; omega) hD1).trans d3
      clear hk3 hg3 hK3 hO' c1 c2 hy HR d3
      rcases hout with ⟨rfl, hJ3⟩ | ⟨rfl, hJx3⟩
      · have HJ3 := Lib.hid hJ3
        obtain ⟨fn, tmps, assign, body, hy, hR⟩ := HY.out O' (Pr ++ It.fieldsS (fs.take k) ++ [x]) y W3 HO'.out hs3 hJ3 (by rw [List.length_append, List.length_append, HLen.out]; simp; omega)
        have HR := Lib.hid hR
        clear hR hJ3
        unfold encW at hy
        gi_wp2
        refine ⟨rfl, HR.out.mono ?_⟩
        rintro e W4 ⟨hk4, O4, hg4, hout⟩
        obtain ⟨hO4, hK4⟩ := round_next HO'.out (Nat.le_refl _) hs3 rfl HK3.out hk4 hg4
        have HK4 := Lib.hid hK4
        have HO4 := Lib.hid hO4
        have hs4 := hK4.size
        have d34 : W4.cell? ⟨Bx, 3, none⟩ = some (.slice aL ws.length cL) := ((hk4.mono fun _ _ h => .inl h : Keeps Dt W3 W4).cell (p := ⟨Bx, 3, none⟩) (by simp; omega) hD1).trans d33
        clear hk4 hg4 hK4 hO4 hy HR d33
        rcases hout with ⟨rfl, hJ4⟩ | ⟨rfl, hJx4⟩
        · have HJ4 := Lib.hid hJ4
          clear hJ4
          gi_wp2
          go_roundw
          case rel => exact ⟨k + 1, O4, by go_num, by omega, HO4.out, by rw [HT.out, ← List.append_assoc, ← List.append_assoc]; exact HJ4.out, HK4, hs4, d34⟩
          case measure => simp [intOf]; omega
        · have HJ4 := Lib.hid hJx4
          clear hJx4
          gi_wp2
          refine bodyPost_ret (results_none rfl _ _ _) rfl ?_
          refine ⟨⟨_, rfl⟩, hs4, O4, HO4.out, .inr ⟨_, ?_, HJ4.out⟩⟩
          show _ <+: Dig.dec kind :: Dig.dec ex :: (It.fieldsS fs ++ ws)
          rw [HPr.out]
          have := HPre.out
          rw [HT.out, ← List.append_assoc, ← List.append_assoc] at this
          exact this
      · have HJ3 := Lib.hid hJx3
        clear hJx3
        gi_wp2
        refine ⟨fun _ h => (by cases h), ?_⟩
        gi_wp2
        refine bodyPost_ret (results_none rfl _ _ _) rfl ?_
        refine ⟨⟨_, rfl⟩, hs3, O', HO'.out, .inr ⟨_, ?_, HJ3.out⟩⟩
        show _ <+: Dig.dec kind :: Dig.dec ex :: (It.fieldsS fs ++ ws)
        rw [HPr.out]
        have := HPre.out
        rw [HT.out, ← List.append_assoc, ← List.append_assoc] at this
        exact (List.prefix_append _ _).trans this
    · obtain rfl : k = fs.length := by omega
      have HJ1 : Hid (J O (Pr ++ It.fieldsS fs) wr) := Lib.hid (by have := HJs.out; rwa [List.take_length] at this)
      clear HJs
      gi_wp2
      gi_loopw [54] (fun i wr => ∃ (k : Nat) (O : Nat → Prop), i = .int .i64 k ∧ k ≤ ws.length ∧ (∀ k, O k → W.heap.size ≤ k ∧ k < wr.heap.size) ∧ J O (Pr ++ (It.fieldsS fs ++ ws.take k)) wr ∧ Hid (Keeps Dt W wr) ∧ W.heap.size ≤ wr.heap.size) (fun i _ => ws.length - (intOf i).toNat)
      case atStart => exact ⟨0, O, rfl, Nat.zero_le _, hO, by simpa using HJ1.out, HK, hsz⟩
      case round =>
        clear HJ1 d3 hO HK hsz
        obtain ⟨k, O, rfl, hk, hO, hJs, HK, hsz⟩ := hrel
        have HJs := Lib.hid hJs
        clear hJs
        by_cases hlt : k < ws.length
        · obtain ⟨b, off, rfl, hb, hc⟩ := HWd.out.get (by omega)
          have hDb := hD3 b off rfl (by omega)
          have c1 := ((HK.out.cell (p := ⟨b, off + k, none⟩) (by simp; omega) hDb).trans (HBl.out.cell (p := ⟨b, off + k, none⟩) hb)).trans (hc k hlt)
          have hwl : (ws.length : Int) ≤ 1000000 := by omega
          have hkI : (k : Int) < (ws.length : Int) := by omega
          have HT : Hid (ws.take (k + 1) = ws.take k ++ [ws.getD k []]) := Lib.hid (take_succ_getD hlt)
          clear hc
          generalize ws.getD k [] = x at c1 HT
          obtain ⟨fn, tmps, assign, body, hy, hR⟩ := HY.out O (Pr ++ (It.fieldsS fs ++ ws.take k)) x wr hO hsz HJs.out (by rw [List.length_append, List.length_append, List.length_take, HFL.out]; omega)
          have HR := Lib.hid hR
          clear hR
          unfold encW at hy
          gi_wp2
          refine ⟨rfl, HR.out.mono ?_⟩
          rintro e W3 ⟨hk3, O', hg3, hout⟩
          obtain ⟨hO', hK3⟩ := round_next hO (Nat.le_refl _) hsz rfl HK.out hk3 hg3
          have HK3 := Lib.hid hK3
          have HO' := Lib.hid hO'
          have hs3 := hK3.size
          clear hk3 hg3 hK3 hO' c1
          rcases hout with ⟨rfl, hJ3⟩ | ⟨rfl, hJx3⟩
          · have HJ3 := Lib.hid hJ3
            clear hJ3
            gi_wp2
            go_roundw
            case rel => exact ⟨k + 1, O', by go_num, by omega, HO'.out, by rw [HT.out, ← List.append_assoc, ← List.append_assoc, List.append_assoc Pr]; exact HJ3.out, HK3, hs3⟩
            case measure => simp [intOf]; omega
          · have HJ3 := Lib.hid hJx3
            clear hJx3
            gi_wp2
            refine bodyPost_ret (results_none rfl _ _ _) rfl ?_
            refine ⟨⟨_, rfl⟩, hs3, O', HO'.out, .inr ⟨_, ?_, HJ3.out⟩⟩
            show _ <+: Dig.dec kind :: Dig.dec ex :: (It.fieldsS fs ++ ws)
            rw [HPr.out]
            rw [List.append_assoc, List.append_assoc, ← HT.out]
            exact (List.prefix_append_right_inj _).2 ((List.prefix_append_right_inj _).2 (List.take_prefix _ _))
        · obtain rfl : k = ws.length := by omega
          gi_wp2
          go_end0
          exact ⟨⟨_, rfl⟩, hsz, O, hO, .inl ⟨_, HPr.out.symm, by have := HJs.out; rwa [List.take_length] at this⟩⟩

/-- .. of any item. -/
theorem words_seq (Bx : Nat) (kind : Int) (s : List UInt8) (aF : Option Addr) (cF : Nat) (fs : List (List UInt8 × List UInt8)) (aL : Option Addr) (cL : Nat) (ws : List (List UInt8)) (ex : Int) (w : World) (h1 : ItBox w Bx kind s aF fs.length cF aL ws.length cL ex)
    (h2 : Fds w aF cF fs) (h3 : Wds w aL cL ws) (hm : It.mayB ⟨kind, s, fs, ws, ex⟩ = true) (henv : Env w) (Dt Pv : Nat → Prop) (hD0 : ∀ k, k < 8 → Dt k) (hD1 : Dt Bx) (hD2 : ∀ b off, aF = some ⟨b, off, none⟩ → 0 < fs.length → Dt b) (hD3 : ∀ b off, aL = some ⟨b, off, none⟩ → 0 < ws.length → Dt b) :
    SeqT true Tryz.prog 40 #[.pointer (some ⟨Bx, 0, none⟩)] encW Dt Pv (fun ys => ys = Dp.wordsI ⟨kind, s, fs, ws, ex⟩) (fun p => p <+: Dp.wordsI ⟨kind, s, fs, ws, ex⟩) (3 + 2 * fs.length + ws.length) w := by
  rw [← words_item hm]
  obtain ⟨x0, x1, -, c⟩ := Dp.may_cases hm
  simp only at x0 x1 c
  unfold itemW
  by_cases hk : kind = 1
  · subst hk
    rcases c with ⟨-, rfl, rfl⟩ | ⟨h, -⟩ | ⟨h, -⟩
    · rw [if_pos rfl]
      exact words_one Bx s aF cF aL cL ex w h1 henv (by omega) (by omega) Dt Pv hD0 hD1
    · omega
    · omega
  · rw [if_neg hk]
    have hl : fs.length ≤ 1000000 ∧ ws.length ≤ 1000000 := by rcases c with ⟨h, -⟩ | ⟨-, -, -, h, -, rfl⟩ | ⟨-, -, rfl, -, h⟩ <;> first | omega | (simp; omega)
    exact words_many Bx kind s aF cF fs aL cL ws ex w h1 h2 h3 hl.1 hl.2 hk (by rcases c with ⟨h, -⟩ | ⟨h, -⟩ | ⟨h, -⟩ <;> omega) (by rcases c with ⟨h, -⟩ | ⟨h, -⟩ | ⟨h, -⟩ <;> omega) henv (by omega) (by omega) Dt Pv hD0 hD1 hD2 hD3
end Go.Proofs.YtbkhnnjjpelfcaaGreatDoor
