/- The contract of the iterator over the words of a valid item (10.1). The contracts of slices.AppendSeq and slices.Collect over texts. The contract of Put (10.1). -/
import Derived.Test.YtbkhnnjjpelfcaaGreatDoorItMay
import Derived.Test.YtbkhnnjjpelfcaaGreatDoorRpOwn
import Derived.Test.YtbkhnnjjpelfcaaGreatDoorDpPlain
import Derived.Maps.OwnIn
import Derived.Test.YtbkhnnjjpelfcaaGreatDoorDpEnc
import Derived.Test.YtbkhnnjjpelfcaaGreatDoorRpWords
import Derived.Test.YtbkhnnjjpelfcaaGreatDoorSlotCrc
import Derived.Maps.AppendAt
namespace Go.Proofs.YtbkhnnjjpelfcaaGreatDoor
open Go.RowKit Go.Shelf
attribute [local go_sem] Oper.semAt_some
set_option linter.unusedVariables false
set_option linter.unusedSimpArgs false

theorem itoa_env (n : Int) (w : World) (h0 : -9223372036854775808 ≤ n) (h1 : n ≤ 9223372036854775807) (henv : Env w) :
    Calls Tryz.prog 41 #[.int .i64 n] w fun e w' => e = .returned (.string ⟨(Dig.dec n).toArray⟩) ∧ Below w.heap.size w w' := by
  refine (Tryz.strconv_Itoa n h0 h1 w henv.tab).mono ?_
  rintro e w4 ⟨rfl, k4, os4, rfl⟩
  exact ⟨by rw [show Lib.itoa n = Dig.dec n by
    unfold Lib.itoa Dig.dec
    by_cases h : n < 0
    · rw [if_pos h, if_pos h, digs_dec, show n.natAbs = (-n).toNat by omega]
    · rw [if_neg h, if_neg h, digs_dec]], Lib.below_grow w.heap.size w (Nat.le_refl _) k4 os4⟩

/-- the iterator's words. -/
def itemW (k x : Int) (s : List UInt8) (fs : List (List UInt8 × List UInt8)) (ws : List (List UInt8)) : List (List UInt8) := Dig.dec k :: Dig.dec x :: (if k = 1 then [s] else It.fieldsS fs ++ ws)
theorem words_item {k x : Int} {s : List UInt8} {fs : List (List UInt8 × List UInt8)} {ws : List (List UInt8)} (h : It.mayB ⟨k, s, fs, ws, x⟩ = true) : itemW k x s fs ws = Dp.wordsI ⟨k, s, fs, ws, x⟩ := by
  obtain ⟨-, -, -, c⟩ := Dp.may_cases h
  unfold itemW Dp.wordsI
  simp only at c ⊢
  rcases c with ⟨rfl, -⟩ | ⟨rfl, -, -, -, -, rfl⟩ | ⟨hk, -, rfl, -⟩
  · simp
  · rw [if_neg (by decide), if_neg (by decide), if_pos rfl, List.append_nil]
  · rw [if_neg (by omega), if_neg (by omega), if_neg (by omega)]; simp [It.fieldsS]

set_option maxRecDepth 100000 in
set_option maxHeartbeats 8000000 in
theorem words_one (Bx : Nat) (s : List UInt8) (aF : Option Addr) (cF : Nat) (aL : Option Addr) (cL : Nat) (ex : Int) (w : World) (h1 : ItBox w Bx 1 s aF 0 cF aL 0 cL ex)
    (henv : Env w) (x0 : -9223372036854775808 ≤ ex) (x1 : ex ≤ 9223372036854775807) (Dt Pv : Nat → Prop) (hD0 : ∀ k, k < 8 → Dt k) (hD1 : Dt Bx) :
    SeqT true Tryz.prog 40 #[.pointer (some ⟨Bx, 0, none⟩)] encW Dt Pv (fun ys => ys = [Dig.dec 1, Dig.dec ex, s]) (fun p => p <+: [Dig.dec 1, Dig.dec ex, s]) 3 w := by
  intro l J Jx W hW hJ _ _ hY h0
  have hlt := h1.lt
  have hone := hlt
  have HBl := Lib.hid hW
  obtain ⟨c0, c1, c2, c3, c4⟩ := (h1.later hW).at
  have HY := Lib.hid hY
  have hWs := hW.size
  have HA := Lib.hid hJ
  have HD0 := Lib.hid hD0
  have HE := Lib.hid (henv.later hW)
  have HI1 := Lib.hid (fun A (he : Env A) => (callsIn_wide (n := 0)).2 (itoa_env 1 A (by decide) (by decide) he))
  have HI2 := Lib.hid (fun A (he : Env A) => (callsIn_wide (n := 0)).2 (itoa_env ex A x0 x1 he))
  have HJ0 := Lib.hid h0
  clear h1 hY hJ hW h0 henv x0 x1
  refine callsIn_of_wp Tryz.func40 rfl trivial ?_ rfl
  simp only [Tryz.ntmps40, List.size_toArray, List.length_cons, List.length_nil, Nat.reduceAdd, Nat.reduceSub, Array.replicate_succ, Array.replicate_zero, List.push_toArray, List.append_toArray, List.nil_append, List.cons_append]
  gi_wp2
  refine ⟨trivial, rfl, (HI1.out _ HE.out).mono ?_⟩
  rintro e W0 ⟨rfl, hb0⟩
  have hj0 := HA.out _ _ _ _ HJ0.out (Keeps.of_below hb0 fun _ h _ => h)
  obtain ⟨fn0, tmps0, assign0, body0, hy0, hR0⟩ := HY.out (fun _ => False) [] (Dig.dec 1) W0 (fun _ h => h.elim) hb0.size hj0 (by simp)
  have HR0 := Lib.hid hR0
  have HB0 := Lib.hid hb0
  unfold encW at hy0
  clear hR0 hb0 hj0 HJ0 HI1
  gi_wp2
  refine ⟨rfl, HR0.out.mono ?_⟩
  rintro e W1 ⟨hk1, O1, hg1, hout⟩
  obtain ⟨hO1, hK1⟩ := round_next (O := fun _ => False) (wr := W) (fun _ h => h.elim) HB0.out.size (Nat.le_refl _) rfl (Keeps.of_below HB0.out fun _ h _ => h) hk1 hg1
  have HK1 := Lib.hid hK1
  have HO1 := Lib.hid hO1
  have hs1 := hK1.size
  have d0 := (hK1.cell (p := ⟨Bx, 0, none⟩) (by simp; omega) hD1).trans c0
  have d1 := (hK1.cell (p := ⟨Bx, 1, none⟩) (by simp; omega) hD1).trans c1
  have d2 := (hK1.cell (p := ⟨Bx, 2, none⟩) (by simp; omega) hD1).trans c2
  have d3 := (hK1.cell (p := ⟨Bx, 3, none⟩) (by simp; omega) hD1).trans c3
  have d4 := (hK1.cell (p := ⟨Bx, 4, none⟩) (by simp; omega) hD1).trans c4
  have HE1 := Lib.hid (HE.out.keeps hK1 HD0.out)
  clear hk1 hg1 hK1 hO1 c0 c1 c2 c3 c4 hy0 HR0 HB0
  rcases hout with ⟨rfl, hj⟩ | ⟨rfl, hj⟩
  rotate_left
  · have HJ1 := Lib.hid hj
    clear hj
    gi_wp2
    refine ⟨trivial, ?_⟩
    gi_wp2
    refine ⟨fun _ h => (by cases h), ?_⟩
    gi_wp2
    refine bodyPost_ret (results_none rfl _ _ _) rfl ?_
    exact ⟨⟨_, rfl⟩, hs1, O1, HO1.out, .inr ⟨_, ⟨_, rfl⟩, HJ1.out⟩⟩
  have HJ1 := Lib.hid hj
  clear hj
  gi_wp2
  refine ⟨trivial, rfl, (HI2.out _ HE1.out).mono ?_⟩
  rintro e W2 ⟨rfl, hb2⟩
  have hj2 := HA.out _ _ _ _ HJ1.out (Keeps.of_below hb2 fun _ h _ => h)
  have hO1' := HO1.out
  obtain ⟨fn0, tmps0, assign0, body0, hy0, hR0⟩ := HY.out O1 [Dig.dec 1] (Dig.dec ex) W2 (fun j hj => ⟨(hO1' j hj).1, Nat.lt_of_lt_of_le (hO1' j hj).2 hb2.size⟩) (Nat.le_trans hs1 hb2.size) hj2 (by simp)
  have HR0 := Lib.hid hR0
  have HB2 := Lib.hid hb2
  unfold encW at hy0
  clear hR0 hb2 hj2 HI2 hO1'
  gi_wp2
  refine ⟨rfl, HR0.out.mono ?_⟩
  rintro e W3 ⟨hk3, O3, hg3, hout⟩
  obtain ⟨hO3, hK3⟩ := round_next HO1.out HB2.out.size hs1 rfl (HK1.out.trans (Keeps.of_below HB2.out fun _ h _ => h)) hk3 hg3
  have hK13 : Keeps Dt W1 W3 := (Keeps.of_below HB2.out fun _ h _ => h).trans (hk3.mono fun _ _ h => .inl h)
  have HK3 := Lib.hid hK3
  have HO3 := Lib.hid hO3
  have hs3 := hK3.size
  replace d0 := (hK13.cell (p := ⟨Bx, 0, none⟩) (by simp; omega) hD1).trans d0
  replace d1 := (hK13.cell (p := ⟨Bx, 1, none⟩) (by simp; omega) hD1).trans d1
  replace d2 := (hK13.cell (p := ⟨Bx, 2, none⟩) (by simp; omega) hD1).trans d2
  replace d3 := (hK13.cell (p := ⟨Bx, 3, none⟩) (by simp; omega) hD1).trans d3
  clear hk3 hg3 hK3 hO3 hy0 HR0 HB2 hK13 HK1 HO1 HJ1 d4 HE1 HE
  rcases hout with ⟨rfl, hj⟩ | ⟨rfl, hj⟩
  rotate_left
  · have HJ1 := Lib.hid hj
    clear hj
    gi_wp2
    refine bodyPost_ret (results_none rfl _ _ _) rfl ?_
    exact ⟨⟨_, rfl⟩, hs3, O3, HO3.out, .inr ⟨_, ⟨_, rfl⟩, HJ1.out⟩⟩
  have HJ3 := Lib.hid hj
  clear hj
  obtain ⟨fn0, tmps0, assign0, body0, hy0, hR0⟩ := HY.out O3 [Dig.dec 1, Dig.dec ex] s W3 HO3.out hs3 HJ3.out (by simp)
  have HR0 := Lib.hid hR0
  unfold encW at hy0
  clear hR0 HJ3
  gi_wp2
  refine ⟨rfl, HR0.out.mono ?_⟩
  rintro e W4 ⟨hk4, O4, hg4, hout⟩
  obtain ⟨hO4, hK4⟩ := round_next HO3.out (Nat.le_refl _) hs3 rfl HK3.out hk4 hg4
  have hK34 : Keeps Dt W3 W4 := hk4.mono fun _ _ h => .inl h
  have HK4 := Lib.hid hK4
  have HO4 := Lib.hid hO4
  have hs4 := hK4.size
  replace d2 := (hK34.cell (p := ⟨Bx, 2, none⟩) (by simp; omega) hD1).trans d2
  replace d3 := (hK34.cell (p := ⟨Bx, 3, none⟩) (by simp; omega) hD1).trans d3
  clear hk4 hg4 hK4 hO4 hy0 HR0 hK34 d0 d1
  rcases hout with ⟨rfl, hj⟩ | ⟨rfl, hj⟩
  rotate_left
  · have HJ1 := Lib.hid hj
    clear hj
    gi_wp2
    refine bodyPost_ret (results_none rfl _ _ _) rfl ?_
    exact ⟨⟨_, rfl⟩, hs4, O4, HO4.out, .inr ⟨_, ⟨[], rfl⟩, HJ1.out⟩⟩
  have HJ4 := Lib.hid hj
  clear hj
  gi_wp2
  gi_loopw [34] (fun i wr => i = .int .i64 0 ∧ wr = W4) (fun _ _ => 0)
  case atStart => exact ⟨rfl, rfl⟩
  case round =>
    obtain ⟨rfl, rfl⟩ := hrel
    gi_wp2
    gi_loopw [54] (fun i w9 => i = .int .i64 0 ∧ w9 = wr) (fun _ _ => 0)
    case atStart => exact ⟨rfl, rfl⟩
    case round =>
      obtain ⟨rfl, rfl⟩ := hrel
      gi_wp2
      go_end0
      exact ⟨⟨_, rfl⟩, hs4, O4, HO4.out, .inl ⟨_, rfl, HJ4.out⟩⟩

set_option maxRecDepth 100000 in
set_option maxHeartbeats 8000000 in
theorem words_many (Bx : Nat) (kind : Int) (s : List UInt8) (aF : Option Addr) (cF : Nat) (fs : List (List UInt8 × List UInt8)) (aL : Option Addr) (cL : Nat) (ws : List (List UInt8)) (ex : Int) (w : World) (h1 : ItBox w Bx kind s aF fs.length cF aL ws.length cL ex)
    (h2 : Fds w aF cF fs) (h3 : Wds w aL cL ws) (hn : fs.length ≤ 1000000) (hm : ws.length ≤ 1000000) (hk1 : ¬ kind = 1) (k0 : -9223372036854775808 ≤ kind) (k1 : kind ≤ 9223372036854775807) (henv : Env w) (x0 : -9223372036854775808 ≤ ex) (x1 : ex ≤ 9223372036854775807) (Dt Pv : Nat → Prop) (hD0 : ∀ k, k < 8 → Dt k) (hD1 : Dt Bx) (hD2 : ∀ b off, aF = some ⟨b, off, none⟩ → 0 < fs.length → Dt b) (hD3 : ∀ b off, aL = some ⟨b, off, none⟩ → 0 < ws.length → Dt b) :
    SeqT true Tryz.prog 40 #[.pointer (some ⟨Bx, 0, none⟩)] encW Dt Pv (fun ys => ys = Dig.dec kind :: Dig.dec ex :: (It.fieldsS fs ++ ws)) (fun p => p <+: Dig.dec kind :: Dig.dec ex :: (It.fieldsS fs ++ ws)) (3 + 2 * fs.length + ws.length) w := by
  intro l J Jx W hW hJ _ _ hY h0
  have hlt := h1.lt
  have HFd := Lib.hid h2
  have HWd := Lib.hid h3
  have HFL := Lib.hid (It.fieldsS_len fs)
  have hkb : (kind == 1) = false := by rw [beq_eq_false_iff_ne]; exact hk1
  have HBl := Lib.hid hW
  obtain ⟨c0, c1, c2, c3, c4⟩ := (h1.later hW).at
  have HY := Lib.hid hY
  have hWs := hW.size
  have HA := Lib.hid hJ
  have HD0 := Lib.hid hD0
  have HE := Lib.hid (henv.later hW)
  have HI1 := Lib.hid (fun A (he : Env A) => (callsIn_wide (n := 0)).2 (itoa_env kind A k0 k1 he))
  have HI2 := Lib.hid (fun A (he : Env A) => (callsIn_wide (n := 0)).2 (itoa_env ex A x0 x1 he))
  have HJ0 := Lib.hid h0
  clear h1 hY h2 h3 k0 k1 hJ hW h0 henv x0 x1
  refine callsIn_of_wp Tryz.func40 rfl trivial ?_ rfl
  simp only [Tryz.ntmps40, List.size_toArray, List.length_cons, List.length_nil, Nat.reduceAdd, Nat.reduceSub, Array.replicate_succ, Array.replicate_zero, List.push_toArray, List.append_toArray, List.nil_append, List.cons_append]
  gi_wp2
  refine ⟨trivial, rfl, (HI1.out _ HE.out).mono ?_⟩
  rintro e W0 ⟨rfl, hb0⟩
  have hj0 := HA.out _ _ _ _ HJ0.out (Keeps.of_below hb0 fun _ h _ => h)
  obtain ⟨fn0, tmps0, assign0, body0, hy0, hR0⟩ := HY.out (fun _ => False) [] (Dig.dec kind) W0 (fun _ h => h.elim) hb0.size hj0 (by simp; omega)
  have HR0 := Lib.hid hR0
  have HB0 := Lib.hid hb0
  unfold encW at hy0
  clear hR0 hb0 hj0 HJ0 HI1
  gi_wp2
  refine ⟨rfl, HR0.out.mono ?_⟩
  rintro e W1 ⟨hk1, O1, hg1, hout⟩
  obtain ⟨hO1, hK1⟩ := round_next (O := fun _ => False) (wr := W) (fun _ h => h.elim) HB0.out.size (Nat.le_refl _) rfl (Keeps.of_below HB0.out fun _ h _ => h) hk1 hg1
  have HK1 := Lib.hid hK1
  have HO1 := Lib.hid hO1
  have hs1 := hK1.size
  have d0 := (hK1.cell (p := ⟨Bx, 0, none⟩) (by simp; omega) hD1).trans c0
  have d1 := (hK1.cell (p := ⟨Bx, 1, none⟩) (by simp; omega) hD1).trans c1
  have d2 := (hK1.cell (p := ⟨Bx, 2, none⟩) (by simp; omega) hD1).trans c2
  have d3 := (hK1.cell (p := ⟨Bx, 3, none⟩) (by simp; omega) hD1).trans c3
  have d4 := (hK1.cell (p := ⟨Bx, 4, none⟩) (by simp; omega) hD1).trans c4
  have HE1 := Lib.hid (HE.out.keeps hK1 HD0.out)
  clear hk1 hg1 hK1 hO1 c0 c1 c2 c3 c4 hy0 HR0 HB0
  rcases hout with ⟨rfl, hj⟩ | ⟨rfl, hj⟩
  rotate_left
  · have HJ1 := Lib.hid hj
    clear hj
    gi_wp2
    refine ⟨trivial, ?_⟩
    gi_wp2
    refine ⟨fun _ h => (by cases h), ?_⟩
    gi_wp2
    refine bodyPost_ret (results_none rfl _ _ _) rfl ?_
    exact ⟨⟨_, rfl⟩, hs1, O1, HO1.out, .inr ⟨_, ⟨_, rfl⟩, HJ1.out⟩⟩
  have HJ1 := Lib.hid hj
  clear hj
  gi_wp2
  refine ⟨trivial, rfl, (HI2.out _ HE1.out).mono ?_⟩
  rintro e W2 ⟨rfl, hb2⟩
  have hj2 := HA.out _ _ _ _ HJ1.out (Keeps.of_below hb2 fun _ h _ => h)
  have hO1' := HO1.out
  obtain ⟨fn0, tmps0, assign0, body0, hy0, hR0⟩ := HY.out O1 [Dig.dec kind] (Dig.dec ex) W2 (fun j hj => ⟨(hO1' j hj).1, Nat.lt_of_lt_of_le (hO1' j hj).2 hb2.size⟩) (Nat.le_trans hs1 hb2.size) hj2 (by simp; omega)
  have HR0 := Lib.hid hR0
  have HB2 := Lib.hid hb2
  unfold encW at hy0
  clear hR0 hb2 hj2 HI2 hO1'
  gi_wp2
  refine ⟨rfl, HR0.out.mono ?_⟩
  rintro e W3 ⟨hk3, O3, hg3, hout⟩
  obtain ⟨hO3, hK3⟩ := round_next HO1.out HB2.out.size hs1 rfl (HK1.out.trans (Keeps.of_below HB2.out fun _ h _ => h)) hk3 hg3
  have hK13 : Keeps Dt W1 W3 := (Keeps.of_below HB2.out fun _ h _ => h).trans (hk3.mono fun _ _ h => .inl h)
  have HK3 := Lib.hid hK3
  have HO3 := Lib.hid hO3
  have hs3 := hK3.size
  replace d0 := (hK13.cell (p := ⟨Bx, 0, none⟩) (by simp; omega) hD1).trans d0
  replace d1 := (hK13.cell (p := ⟨Bx, 1, none⟩) (by simp; omega) hD1).trans d1
  replace d2 := (hK13.cell (p := ⟨Bx, 2, none⟩) (by simp; omega) hD1).trans d2
  replace d3 := (hK13.cell (p := ⟨Bx, 3, none⟩) (by simp; omega) hD1).trans d3
  clear hk3 hg3 hK3 hO3 hy0 HR0 HB2 hK13 HK1 HO1 HJ1 d4 HE1 HE
  rcases hout with ⟨rfl, hj⟩ | ⟨rfl, hj⟩
  rotate_left
  · have HJ1 := Lib.hid hj
    clear hj
    gi_wp2
    refine bodyPost_ret (results_none rfl _ _ _) rfl ?_
    exact ⟨⟨_, rfl⟩, hs3, O3, HO3.out, .inr ⟨_, ⟨_, rfl⟩, HJ1.out⟩⟩
  have HJ3 := Lib.hid hj
  clear hj
  gi_wp2
  refine ⟨fun _ h => (by cases h), ?_⟩
  gi_wp2
  obtain ⟨Pr, hPr⟩ : ∃ Pr, [Dig.dec kind, Dig.dec ex] = Pr := ⟨_, rfl⟩
  have hPl : Pr.length = 2 := by rw [← hPr]; rfl
  have hJP : J O3 Pr W3 := by rw [← hPr]; exact HJ3.out
  have HPr := Lib.hid (show Dig.dec kind :: Dig.dec ex :: (It.fieldsS fs ++ ws) = Pr ++ (It.fieldsS fs ++ ws) by rw [← hPr]; rfl)
  have HJ3 := Lib.hid hJP
  clear hPr hJP d0 d1
  gi_loopw [34] (fun i wr => ∃ (k : Nat) (O : Nat → Prop), i = .int .i64 k ∧ k ≤ fs.length ∧ (∀ k, O k → W.heap.size ≤ k ∧ k < wr.heap.size) ∧ J O (Pr ++ It.fieldsS (fs.take k)) wr ∧ Hid (Keeps Dt W wr) ∧ W.heap.size ≤ wr.heap.size ∧ wr.cell? ⟨Bx, 3, none⟩ = some (.slice aL ws.length cL)) (fun i _ => fs.length - (intOf i).toNat)
  case atStart => exact ⟨0, O3, rfl, Nat.zero_le _, HO3.out, by simpa [It.fieldsS] using HJ3.out, HK3, hs3, d3⟩
  case round =>
    clear HJ3 HK3 HO3 d2 d3 hs3
    obtain ⟨k, O, rfl, hk, hO, hJs, HK, hsz, d3⟩ := hrel
    have HJs := Lib.hid hJs
    clear hJs
    by_cases hlt2 : k < fs.length
    · obtain ⟨b, off, rfl, hb, hc⟩ := HFd.out.get (by omega)
      have hDb := hD2 b off rfl (by omega)
      have c1 := ((HK.out.cell (p := ⟨b, off + k * 2, none⟩) (by simp; omega) hDb).trans (HBl.out.cell (p := ⟨b, off + k * 2, none⟩) hb)).trans (hc k hlt2).1
      have c2 := ((HK.out.cell (p := ⟨b, off + k * 2 + 1, none⟩) (by simp; omega) hDb).trans (HBl.out.cell (p := ⟨b, off + k * 2 + 1, none⟩) hb)).trans (hc k hlt2).2
      have hwl : (fs.length : Int) ≤ 1000000 := by omega
      have hkI : (k : Int) < (fs.length : Int) := by omega
      have HT := Lib.hid (It.fieldsS_take fs hlt2)
      have hlen : (It.fieldsS (fs.take k)).length = 2 * k := by rw [It.fieldsS_len, List.length_take]; omega
      have HLen := Lib.hid hlen
      have HPre := Lib.hid ((List.prefix_append_right_inj Pr).2 ((It.fieldsS_pre fs (k + 1)).trans (List.prefix_append _ ws)))
      clear hc hlen
      generalize (fs.getD k ([], [])).1 = x at c1 HT
      generalize (fs.getD k ([], [])).2 = y at c2 HT
      have hJa := HA.out _ _ _ _ HJs.out ((Keeps.refl _ _).alloc (.cells #[.string ⟨x.toArray⟩, .string ⟨y.toArray⟩] 42))
      obtain ⟨fn, tmps, assign, body, hy, hR⟩ := HY.out O (Pr ++ It.fieldsS (fs.take k)) x (wr.alloc (.cells #[.string ⟨x.toArray⟩, .string ⟨y.toArray⟩] 42)) (fun j hj => ⟨(hO j hj).1, by have := (hO j hj).2; simp; omega⟩) (by simp; omega) hJa (by rw [List.length_append, HLen.out]; omega)
      have HR := Lib.hid hR
      clear hR hJa
      unfold encW at hy
      have hBx : Hid (∀ O, (∀ k, O k → W.heap.size ≤ k ∧ k < wr.heap.size) → RoundS Dt Pv W.heap.size O wr.heap.size) := Lib.hid fun O h => .inr (.inr ⟨hsz, fun hh => by have := (h _ hh).2; omega⟩)
      gi_wp2
      refine ⟨rfl, HR.out.mono ?_⟩
      rintro e W3 ⟨hk3, O', hg3, hout⟩
      obtain ⟨hO', hK3⟩ := round_next hO (by simp) hsz rfl (HK.out.alloc _) hk3 hg3
      have hcell : W3.cell? ⟨wr.heap.size, 1, none⟩ = some (.string ⟨y.toArray⟩) := (hk3.cell (p := ⟨wr.heap.size, 1, none⟩) (by simp) (hBx.out O hO)).trans (by simp [go_sem])
      have HK3 := Lib.hid hK3
      have HO' := Lib.hid hO'
      have hs3 := hK3.size
      have d33 : W3.cell? ⟨Bx, 3, none⟩ = some (.slice aL ws.length cL) := ((((Keeps.refl Dt wr).alloc _).trans (hk3.mono fun _ _ h => .inl h)).cell (p := ⟨Bx, 3, none⟩) (by simp; omega) hD1).trans d3
      clear hk3 hg3 hK3 hO' c1 c2 hy HR d3
      rcases hout with ⟨rfl, hJ3⟩ | ⟨rfl, hJx3⟩
      · have HJ3 := Lib.hid hJ3
        obtain ⟨fn, tmps, assign, body, hy, hR⟩ := HY.out O' (Pr ++ It.fieldsS (fs.take k) ++ [x]) y W3 HO'.out hs3 hJ3 (by rw [List.length_append, List.length_append, HLen.out]; simp; omega)
        have HR := Lib.hid hR
        clear hR hJ3
        unfold encW at hy
        gi_wp2
        refine ⟨rfl, HR.out.mono ?_⟩
        rintro e W4 ⟨hk4, O4, hg4, hout⟩
        obtain ⟨hO4, hK4⟩ := round_next HO'.out (Nat.le_refl _) hs3 rfl HK3.out hk4 hg4
        have HK4 := Lib.hid hK4
        have HO4 := Lib.hid hO4
        have hs4 := hK4.size
        have d34 : W4.cell? ⟨Bx, 3, none⟩ = some (.slice aL ws.length cL) := ((hk4.mono fun _ _ h => .inl h : Keeps Dt W3 W4).cell (p := ⟨Bx, 3, none⟩) (by simp; omega) hD1).trans d33
        clear hk4 hg4 hK4 hO4 hy HR d33
        rcases hout with ⟨rfl, hJ4⟩ | ⟨rfl, hJx4⟩
        · have HJ4 := Lib.hid hJ4
          clear hJ4
          gi_wp2
          go_roundw
          case rel => exact ⟨k + 1, O4, by go_num, by omega, HO4.out, by rw [HT.out, ← List.append_assoc, ← List.append_assoc]; exact HJ4.out, HK4, hs4, d34⟩
          case measure => simp [intOf]; omega
        · have HJ4 := Lib.hid hJx4
          clear hJx4
          gi_wp2
          refine bodyPost_ret (results_none rfl _ _ _) rfl ?_
          refine ⟨⟨_, rfl⟩, hs4, O4, HO4.out, .inr ⟨_, ?_, HJ4.out⟩⟩
          show _ <+: Dig.dec kind :: Dig.dec ex :: (It.fieldsS fs ++ ws)
          rw [HPr.out]
          have := HPre.out
          rw [HT.out, ← List.append_assoc, ← List.append_assoc] at this
          exact this
      · have HJ3 := Lib.hid hJx3
        clear hJx3
        gi_wp2
        refine ⟨fun _ h => (by cases h), ?_⟩
        gi_wp2
        refine bodyPost_ret (results_none rfl _ _ _) rfl ?_
        refine ⟨⟨_, rfl⟩, hs3, O', HO'.out, .inr ⟨_, ?_, HJ3.out⟩⟩
        show _ <+: Dig.dec kind :: Dig.dec ex :: (It.fieldsS fs ++ ws)
        rw [HPr.out]
        have := HPre.out
        rw [HT.out, ← List.append_assoc, ← List.append_assoc] at this
        exact (List.prefix_append _ _).trans this
    · obtain rfl : k = fs.length := by omega
      have HJ1 : Hid (J O (Pr ++ It.fieldsS fs) wr) := Lib.hid (by have := HJs.out; rwa [List.take_length] at this)
      clear HJs
      gi_wp2
      gi_loopw [54] (fun i wr => ∃ (k : Nat) (O : Nat → Prop), i = .int .i64 k ∧ k ≤ ws.length ∧ (∀ k, O k → W.heap.size ≤ k ∧ k < wr.heap.size) ∧ J O (Pr ++ (It.fieldsS fs ++ ws.take k)) wr ∧ Hid (Keeps Dt W wr) ∧ W.heap.size ≤ wr.heap.size) (fun i _ => ws.length - (intOf i).toNat)
      case atStart => exact ⟨0, O, rfl, Nat.zero_le _, hO, by simpa using HJ1.out, HK, hsz⟩
      case round =>
        clear HJ1 d3 hO HK hsz
        obtain ⟨k, O, rfl, hk, hO, hJs, HK, hsz⟩ := hrel
        have HJs := Lib.hid hJs
        clear hJs
        by_cases hlt : k < ws.length
        · obtain ⟨b, off, rfl, hb, hc⟩ := HWd.out.get (by omega)
          have hDb := hD3 b off rfl (by omega)
          have c1 := ((HK.out.cell (p := ⟨b, off + k, none⟩) (by simp; omega) hDb).trans (HBl.out.cell (p := ⟨b, off + k, none⟩) hb)).trans (hc k hlt)
          have hwl : (ws.length : Int) ≤ 1000000 := by omega
          have hkI : (k : Int) < (ws.length : Int) := by omega
          have HT : Hid (ws.take (k + 1) = ws.take k ++ [ws.getD k []]) := Lib.hid (take_succ_getD hlt)
          clear hc
          generalize ws.getD k [] = x at c1 HT
          obtain ⟨fn, tmps, assign, body, hy, hR⟩ := HY.out O (Pr ++ (It.fieldsS fs ++ ws.take k)) x wr hO hsz HJs.out (by rw [List.length_append, List.length_append, List.length_take, HFL.out]; omega)
          have HR := Lib.hid hR
          clear hR
          unfold encW at hy
          gi_wp2
          refine ⟨rfl, HR.out.mono ?_⟩
          rintro e W3 ⟨hk3, O', hg3, hout⟩
          obtain ⟨hO', hK3⟩ := round_next hO (Nat.le_refl _) hsz rfl HK.out hk3 hg3
          have HK3 := Lib.hid hK3
          have HO' := Lib.hid hO'
          have hs3 := hK3.size
          clear hk3 hg3 hK3 hO' c1
          rcases hout with ⟨rfl, hJ3⟩ | ⟨rfl, hJx3⟩
          · have HJ3 := Lib.hid hJ3
            clear hJ3
            gi_wp2
            go_roundw
            case rel => exact ⟨k + 1, O', by go_num, by omega, HO'.out, by rw [HT.out, ← List.append_assoc, ← List.append_assoc, List.append_assoc Pr]; exact HJ3.out, HK3, hs3⟩
            case measure => simp [intOf]; omega
          · have HJ3 := Lib.hid hJx3
            clear hJx3
            gi_wp2
            refine bodyPost_ret (results_none rfl _ _ _) rfl ?_
            refine ⟨⟨_, rfl⟩, hs3, O', HO'.out, .inr ⟨_, ?_, HJ3.out⟩⟩
            show _ <+: Dig.dec kind :: Dig.dec ex :: (It.fieldsS fs ++ ws)
            rw [HPr.out]
            rw [List.append_assoc, List.append_assoc, ← HT.out]
            exact (List.prefix_append_right_inj _).2 ((List.prefix_append_right_inj _).2 (List.take_prefix _ _))
        · obtain rfl : k = ws.length := by omega
          gi_wp2
          go_end0
          exact ⟨⟨_, rfl⟩, hsz, O, hO, .inl ⟨_, HPr.out.symm, by have := HJs.out; rwa [List.take_length] at this⟩⟩

/-- .. of any item. -/
theorem words_seq (Bx : Nat) (kind : Int) (s : List UInt8) (aF : Option Addr) (cF : Nat) (fs : List (List UInt8 × List UInt8)) (aL : Option Addr) (cL : Nat) (ws : List (List UInt8)) (ex : Int) (w : World) (h1 : ItBox w Bx kind s aF fs.length cF aL ws.length cL ex)
    (h2 : Fds w aF cF fs) (h3 : Wds w aL cL ws) (hm : It.mayB ⟨kind, s, fs, ws, ex⟩ = true) (henv : Env w) (Dt Pv : Nat → Prop) (hD0 : ∀ k, k < 8 → Dt k) (hD1 : Dt Bx) (hD2 : ∀ b off, aF = some ⟨b, off, none⟩ → 0 < fs.length → Dt b) (hD3 : ∀ b off, aL = some ⟨b, off, none⟩ → 0 < ws.length → Dt b) :
    SeqT true Tryz.prog 40 #[.pointer (some ⟨Bx, 0, none⟩)] encW Dt Pv (fun ys => ys = Dp.wordsI ⟨kind, s, fs, ws, ex⟩) (fun p => p <+: Dp.wordsI ⟨kind, s, fs, ws, ex⟩) (3 + 2 * fs.length + ws.length) w := by
  rw [← words_item hm]
  obtain ⟨x0, x1, -, c⟩ := Dp.may_cases hm
  simp only at x0 x1 c
  unfold itemW
  by_cases hk : kind = 1
  · subst hk
    rcases c with ⟨-, rfl, rfl⟩ | ⟨h, -⟩ | ⟨h, -⟩
    · rw [if_pos rfl]
      exact words_one Bx s aF cF aL cL ex w h1 henv (by omega) (by omega) Dt Pv hD0 hD1
    · omega
    · omega
  · rw [if_neg hk]
    have hl : fs.length ≤ 1000000 ∧ ws.length ≤ 1000000 := by rcases c with ⟨h, -⟩ | ⟨-, -, -, h, -, rfl⟩ | ⟨-, -, rfl, -, h⟩ <;> first | omega | (simp; omega)
    exact words_many Bx kind s aF cF fs aL cL ws ex w h1 h2 h3 hl.1 hl.2 hk (by rcases c with ⟨h, -⟩ | ⟨h, -⟩ | ⟨h, -⟩ <;> omega) (by rcases c with ⟨h, -⟩ | ⟨h, -⟩ | ⟨h, -⟩ <;> omega) henv (by omega) (by omega) Dt Pv hD0 hD1 hD2 hD3
end Go.Proofs.YtbkhnnjjpelfcaaGreatDoor
namespace Go.Proofs.YtbkhnnjjpelfcaaGreatDoor
open Go.RowKit Go.Shelf
attribute [local go_sem] Oper.semAt_some
set_option linter.unusedVariables false
set_option linter.unusedSimpArgs false

theorem dp_infoS : (Tryz.prog.info? 9).map (fun i => (i.zero, i.size, i.bytes)) = some (some (.string ⟨#[]⟩), 1, 16) := by kernel_rfl

/-- the collector's box (in block Bb, of type T) and row. -/
def WInv (w : World) (Bb : Nat) (f : List (List UInt8) → List (List UInt8)) (O : Nat → Prop) (pre : List (List UInt8)) (W : World) : Prop :=
  (∃ v, Boxed W Bb 23 v ∧ W.ownsRow (w.heap.size + 1) 9 1 v pre.length (wcells (f pre)) ∧ (v = .slice none 0 0 ↔ pre = []) ∧ ∀ g, v.ownBlock = some g → O g) ∧ Below w.heap.size w W

/-- a word more in the box's row. -/
theorem collect_end {w w1 A : World} {b Bb n : Nat} {O Dt : Nat → Prop} {x : List UInt8} {v : Value} {g' cap' : Nat} {cs : List Value} (hv : Boxed A Bb 23 v) (hrow : A.ownsRow (w.heap.size + 1) 9 1 v n cs) (hown : ∀ g, v.ownBlock = some g → O g)
    (hB : Below w.heap.size w A) (hO : ∀ k, O k → b + 2 ≤ k ∧ k < A.heap.size) (hDt : ∀ k, Dt k → k < w.heap.size) (hb : w.heap.size < b) (hBb : Bb = w.heap.size)
    (h1 : w1.ownsRow (w.heap.size + 1) 9 1 (.slice (some ⟨g', 0, none⟩) (n + 1) cap') (n + 1) (cs ++ [.string ⟨x.toArray⟩])) (hk : Keeps (fun k => some k ≠ v.ownBlock) A w1)
    (hat : (Value.slice (some ⟨g', 0, none⟩) (n + 1) cap').ownBlock = v.ownBlock ∨ (Value.slice (some ⟨g', 0, none⟩) (n + 1) cap').ownBlock = some (A.heap.size + 1)) :
    Keeps (RoundS Dt (fun _ => False) b O) A (w1.setCell ⟨Bb, 0, none⟩ (.slice (some ⟨g', 0, none⟩) (n + 1) cap')) ∧ ∃ O', Grows O O' A (w1.setCell ⟨Bb, 0, none⟩ (.slice (some ⟨g', 0, none⟩) (n + 1) cap')) ∧
      (∃ v', Boxed (w1.setCell ⟨Bb, 0, none⟩ (.slice (some ⟨g', 0, none⟩) (n + 1) cap')) Bb 23 v' ∧ (w1.setCell ⟨Bb, 0, none⟩ (.slice (some ⟨g', 0, none⟩) (n + 1) cap')).ownsRow (w.heap.size + 1) 9 1 v' (n + 1) (cs ++ [.string ⟨x.toArray⟩]) ∧ v' ≠ .slice none 0 0 ∧ ∀ g, v'.ownBlock = some g → O' g) ∧
        Below w.heap.size w (w1.setCell ⟨Bb, 0, none⟩ (.slice (some ⟨g', 0, none⟩) (n + 1) cap')) := by
  subst hBb
  have hg' := h1.lt g' rfl
  have hv1 : Boxed w1 w.heap.size 23 v := hk.heap hv (fun e => by have := (hrow.lt _ e.symm).1; omega)
  refine ⟨?_, fun k => O k ∨ (A.heap.size ≤ k ∧ k < w1.heap.size), ?_, ⟨_, hv1.set _, ?_, by simp, ?_⟩, ?_⟩
  · refine (hk.mono ?_).setCell (.inr ?_) _
    · rintro k hkA h e
      have hg := hrow.lt k e.symm
      rcases h with h | h | h
      · have := hDt k h; omega
      · exact h
      · exact h.2 (hown k e.symm)
    · rintro (h | h | h)
      · have := hDt _ h; simp at this
      · exact h
      · have := h.1; simp at this; omega
  · rintro k (h | h)
    · exact ⟨by simp; exact Nat.lt_of_lt_of_le (hO k h).2 hk.size, .inl h⟩
    · exact ⟨by simp; exact h.2, .inr h.1⟩
  · exact ownsRow_setCell_below h1 (by simp) _
  · intro g hg
    rcases hat with e | e
    · exact .inl (hown g (e ▸ hg))
    · rw [hg] at e
      have e' : g = g' := by have := hg; simp [Value.ownBlock] at this; exact this.symm
      have := Option.some.inj e
      exact .inr ⟨by omega, by omega⟩
  · exact (hB.trans (hk.below hB.size fun k hk' e => by have := (hrow.lt k e.symm).1; omega)).setCell (p := ⟨w.heap.size, 0, none⟩) (Nat.le_refl _) _

set_option maxRecDepth 100000 in
set_option maxHeartbeats 4000000 in
theorem appendSeq_any (gf : Nat) (lb : Array Value) (eg : ∀ args w, (callFunc gf args).run Tryz.prog w = .ok (.enter gf args) w) (Dt : Nat → Prop) (S Sp : List (List UInt8) → Prop) (N : Nat) (w0 w : World) (hN : N ≤ 1000000)
    {st : Bool} (hseq : SeqT st Tryz.prog gf lb encW Dt (fun _ => False) S Sp N w0) (hw : Below w0.heap.size w0 w) (hDt : ∀ k, Dt k → k < w.heap.size) :
    CallsIn Fence.wide 0 Tryz.prog 39 #[.slice none 0 0, .func (.func gf) #[] lb] w fun e W' => ∃ v ys, S ys ∧ e = .returned v ∧ W'.ownsRow (w.heap.size + 1) 9 1 v ys.length (wcells ys) ∧ (v = .slice none 0 0 ↔ ys = []) ∧ Below w.heap.size w W' := by
  obtain ⟨i0, hi, hz0, hz1, hz2⟩ := info_parts dp_infoS
  refine callsIn_of_wp_marks Tryz.func39 rfl trivial ?_ rfl
  simp only [Tryz.ntmps39, List.size_toArray, List.length_cons, List.length_nil, Nat.reduceAdd, Nat.reduceSub, Array.replicate_succ, Array.replicate_zero, List.push_toArray, List.append_toArray, List.nil_append, List.cons_append]
  gi_wp2
  obtain ⟨w2, hw2⟩ : ∃ w2, w.alloc (.cells #[.slice none 0 0] 23) = w2 := ⟨_, rfl⟩
  have hs2 : w2.heap.size = w.heap.size + 1 := by rw [← hw2]; simp
  have hbox0 : Boxed w2 w.heap.size 23 (.slice none 0 0) := by rw [← hw2]; exact Boxed.new w 23 _
  have hBw : Below w.heap.size w w2 := by rw [← hw2]; exact (Below.refl _ w).alloc (Nat.le_refl _) _
  rw [hw2]
  clear hw2
  refine wpIn_rangeT (gf := gf) (lb := lb) rfl eg hseq (hw.trans (hBw.mono hw.size)) (fun k h => by have := hDt k h; omega) (fun k h => h.elim) (fun _ => rfl)
    (WInv w w.heap.size id) (fun _ _ _ _ => False) ?hI (fun _ _ _ _ _ h _ => h) (fun _ _ _ _ _ h => h) ⟨⟨_, hbox0, World.ownsRow_nil _ _ _ _, by simp, by simp [Value.ownBlock]⟩, hBw⟩
    (fun _ x a' _ => a' = { tmps := #[.slice none 0 0, .func (.func gf) #[] lb, .pointer (some ⟨w.heap.size, 0, none⟩), undef, .slice none 0 0, .string ⟨x.toArray⟩, .func (.func gf) #[] lb, .string ⟨x.toArray⟩, undef, undef, undef, undef, undef], defers := [] })
    (fun O x a' A C h hk => h) ?assign ?body ?done ?stop
  case hI =>
    rintro O s A C ⟨⟨v, h1, h2, h3, h4⟩, h5⟩ hk
    have own : ∀ k, k < w2.heap.size → IterS (fun _ => False) w2.heap.size O k := fun k h => ⟨id, .inl h⟩
    exact ⟨⟨v, hk.heap h1 (own _ (by omega)), owns_kept h2 hk (fun g hg => ⟨id, .inr (h4 g hg)⟩), h3, h4⟩, h5.trans (hk.below h5.size fun k hk' => own k (by omega))⟩
  case assign =>
    intro O pre x A K hO hA hi hK
    have HK := Lib.hid hK
    have HI := Lib.hid hi
    clear hK hi
    unfold encW
    gi_wp2
    exact HK.out _ _ (Keeps.refl _ _) HI.out rfl
  case body =>
    rintro O pre x a' A hO hA ⟨r, hr⟩ ⟨⟨v, hv, hrow, hnil, hown⟩, hB⟩ rfl hlen
    have b1 := hv.cell
    have hszB := hB.size
    have hrow' : A.ownsRow (w.heap.size + 1) 9 1 v pre.length (wcells pre) := hrow
    gi_wp2_with (gi_at_builtin; refine wpListIn_append_own_at _ rfl (.tmp 8) (.tmp 10) 23 rfl (w.heap.size + 1) 9 i0 (.string ⟨#[]⟩) 1 16 Tryz.underlying23 hi hz0 hz1 hz2 rfl (by decide) _ _ _ rfl (hrow'.alloc _) ⟨A.heap.size, 0, none⟩ 1 1 [.string ⟨x.toArray⟩] rfl rfl ?c1 ?c2 ?c3 ?c4 ?c5 ?_)
    case c1 => exact one_news _ _ rfl _ _
    case c2 => intro u hu; simp at hu; subst hu; rfl
    case c3 => unfold maxLen; omega
    case c4 => omega
    case c5 => simp; omega
    intro v' w1 hown1 hgrow _ hat
    obtain ⟨g', cap', rfl⟩ := ownsRow_succ hown1
    have hkA : Keeps (fun k => some k ≠ v.ownBlock) A w1 := ((Keeps.refl _ A).alloc _).trans (Keeps.of_grown hgrow fun r e h => h e.symm)
    have hvne : some w.heap.size ≠ v.ownBlock := fun e => by have := (hrow.lt _ e.symm).1; omega
    have hv1 : Boxed w1 w.heap.size 23 v := hkA.heap hv hvne
    have c1 := hv1.cell
    have c2 := hv1.frozen
    have hfin := collect_end (x := x) (b := w2.heap.size) hv hrow' hown hB hO hDt (by omega) rfl hown1 hkA hat
    have hfin' : ∀ aa, ownPostT (RoundS Dt (fun _ => False) w2.heap.size O) O (WInv w w.heap.size id) (fun _ _ _ _ => False) (pre ++ [x]) A .normal aa (w1.setCell ⟨w.heap.size, 0, none⟩ (.slice (some ⟨g', 0, none⟩) (pre.length + 1) cap')) := by
      intro aa
      obtain ⟨g1, O', g2, ⟨v', g3, g4, g5, g6⟩, g7⟩ := hfin
      exact ⟨g1, O', g2, ⟨v', g3, by simpa [wcells] using g4, by simp [g5], g6⟩, g7⟩
    have HF := Lib.hid hfin'
    clear hfin hfin' hown1 hgrow hat hkA hvne hv1 hrow hrow' hnil hown hv
    gi_wp2
    exact HF.out _
  case done =>
    rintro O D xs A hD hDs hO - hSx ⟨⟨v, hv, hrow, hnil, hown⟩, hB⟩ hDd
    have b1 := hv.cell
    have hk : Keeps (fun k => k ≠ D) A (A.putObj D (.deferred none)) := (Keeps.refl _ A).putObj (fun h => h rfl) _
    gi_wp2
    refine ⟨by simp, .inl ⟨_, _, rfl, run_takeDeferred hDd, ?_⟩⟩
    refine ⟨_, results_tmp rfl _ _ _, v, xs, hSx, rfl, owns_kept hrow hk (fun g hg => ?_), hnil, hB.trans (hk.below hB.size fun k hk => by omega)⟩
    have := (hO g (hown g hg)).1
    omega
  case stop =>
    rintro O D c pre A _ _ _ _ _ h _
    exact h.elim

set_option maxHeartbeats 1000000 in
theorem collect_any (gf : Nat) (lb : Array Value) (eg : ∀ args w, (callFunc gf args).run Tryz.prog w = .ok (.enter gf args) w) (Dt : Nat → Prop) (S Sp : List (List UInt8) → Prop) (N : Nat) (w0 w : World) (hN : N ≤ 1000000)
    {st : Bool} (hseq : SeqT st Tryz.prog gf lb encW Dt (fun _ => False) S Sp N w0) (hw : Below w0.heap.size w0 w) (hDt : ∀ k, Dt k → k < w.heap.size) :
    CallsIn Fence.wide 0 Tryz.prog 20 #[.func (.func gf) #[] lb] w fun e W' => ∃ v ys, S ys ∧ e = .returned v ∧ W'.ownsRow (w.heap.size + 1) 9 1 v ys.length (wcells ys) ∧ (v = .slice none 0 0 ↔ ys = []) ∧ Below w.heap.size w W' := by
  have hc := appendSeq_any gf lb eg Dt S Sp N w0 w hN hseq hw hDt
  clear hseq hw hDt
  refine callsIn_of_wp Tryz.func20 rfl trivial ?_ rfl
  simp only [Tryz.ntmps20, List.size_toArray, List.length_cons, List.length_nil, Nat.reduceAdd, Nat.reduceSub, Array.replicate_succ, Array.replicate_zero, List.push_toArray, List.append_toArray, List.nil_append, List.cons_append]
  gi_wp2_with (refine ⟨trivial, rfl, ?_⟩; refine hc.mono ?_; rintro e w2 ⟨v, ys, hS, rfl, hrow, hnil, hB⟩; have HR := Lib.hid (And.intro hS (And.intro hrow (And.intro hnil hB))); clear hS hrow hnil hB)
  go_ret
  exact ⟨_, ys, HR.out.1, rfl, HR.out.2.1, HR.out.2.2.1, HR.out.2.2.2⟩

end Go.Proofs.YtbkhnnjjpelfcaaGreatDoor
namespace Go.Proofs.YtbkhnnjjpelfcaaGreatDoor
open Go.RowKit Go.Shelf
attribute [local go_sem] Oper.semAt_some
set_option linter.unusedVariables false
set_option linter.unusedSimpArgs false

theorem dwords_mk (k : Int) (s : List UInt8) (aF : Option Addr) (nF cF : Nat) (aL : Option Addr) (nL cL : Nat) (x : Int) (w : World) : Calls Tryz.prog 21 #[itv k s aF nF cF aL nL cL x] w fun e w' =>
    e = .returned (.func (.func 40) #[] #[.pointer (some ⟨w.heap.size, 0, none⟩)]) ∧ w' = w.alloc (itc k s aF nF cF aL nL cL x) := by
  unfold itv
  go_enter Tryz.func21, Tryz.ntmps21
  go_wp2
  go_ret
  exact ⟨rfl, rfl⟩
theorem dp_info8 : (Tryz.prog.info? 5).map (fun i => (i.zero, i.size, i.bytes)) = some (some (.int .u8 0), 1, 1) := by kernel_rfl
theorem crc_cells (B : List UInt8) : [Value.int .u8 (((Crc16.crc B : Nat) : Int) / 256 % 256), Value.int .u8 (((Crc16.crc B : Nat) : Int) % 256)] = Lib.byteCells (Dp.crc2 B) := by
  have h := Crc16.crc_lt B
  unfold Dp.crc2 Lib.byteCells
  have e : ∀ n, n < 256 → ((UInt8.ofNat n).toNat : Int) = (n : Int) := fun n hn => by rw [UInt8.toNat_ofNat']; omega
  simp only [List.map_cons, List.map_nil]
  rw [e _ (by omega), e _ (by omega)]
  congr 2
  · omega
theorem two8_news (w : World) (x y : Value) (t : TypeId) : ∀ (j : Nat) (u : Value), [x, y][j]? = some u → (w.alloc (.cells #[x, y] t)).cell? ((⟨w.heap.size, 0, none⟩ : Addr).add j) = some u :=
  fun j u h => World.news_of_block (World.alloc_heap_new w (.cells #[x, y] t)) j u h

/-- the words, collected. -/
theorem collect_words (Bx : Nat) (k x : Int) (s : List UInt8) (aF : Option Addr) (cF : Nat) (fs : List (List UInt8 × List UInt8)) (aL : Option Addr) (cL : Nat) (ws : List (List UInt8)) (w : World) (h1 : ItBox w Bx k s aF fs.length cF aL ws.length cL x)
    (hF : Fds w aF cF fs) (hL : Wds w aL cL ws) (hm : It.mayB ⟨k, s, fs, ws, x⟩ = true) (henv : Env w) :
    Calls Tryz.prog 20 #[.func (.func 40) #[] #[.pointer (some ⟨Bx, 0, none⟩)]] w fun e W => ∃ a c, e = .returned (.slice a (Dp.wordsI ⟨k, s, fs, ws, x⟩).length c) ∧ Wl W a c (Dp.wordsI ⟨k, s, fs, ws, x⟩) ∧ Below w.heap.size w W := by
  have hle : 3 + 2 * fs.length + ws.length ≤ 1000000 := by
    obtain ⟨-, -, -, c⟩ := Dp.may_cases hm
    simp only at c
    rcases c with ⟨-, rfl, rfl⟩ | ⟨-, -, -, h, -, rfl⟩ | ⟨-, -, rfl, -, h⟩ <;> (simp; try omega)
  have hseq := words_seq Bx k s aF cF fs aL cL ws x w h1 hF hL hm henv (fun j => j < w.heap.size) (fun _ => False) (fun j hj => by have := henv.size; omega) h1.lt
    (fun b off e h => by obtain ⟨b', off', e', hb', -⟩ := hF.get h; rw [e] at e'; cases e'; exact hb') (fun b off e h => by obtain ⟨b', off', e', hb', -⟩ := hL.get h; rw [e] at e'; cases e'; exact hb')
  refine (callsIn_wide.1 (collect_any 40 _ (enters_of Tryz.func40 (by kernel_rfl) rfl) _ _ _ _ w w hle hseq (Below.refl _ _) (fun _ h => h))).mono ?_
  rintro e W ⟨v, ys, rfl, rfl, hrow, -, hb⟩
  obtain ⟨a, c, rfl, hw, -⟩ := wds_of_row hrow (fun t ht => by have := Dp.wordsI_each hm t ht; omega)
  exact ⟨a, c, rfl, hw, hb⟩

set_option maxRecDepth 100000 in
set_option maxHeartbeats 4000000 in
theorem put_no (k x : Int) (s : List UInt8) (aF : Option Addr) (cF : Nat) (fs : List (List UInt8 × List UInt8)) (aL : Option Addr) (cL : Nat) (ws : List (List UInt8)) (w : World) (hF : Fds w aF cF fs) (hL : Wds w aL cL ws) (hlF : fs.length ≤ 1000000) (hlL : ws.length ≤ 1000000) (hm : It.mayB ⟨k, s, fs, ws, x⟩ = false) :
    Calls Tryz.prog 10 #[itv k s aF fs.length cF aL ws.length cL x] w fun e w' => e = .returned (.string ⟨(Dp.putS ⟨k, s, fs, ws, x⟩).toArray⟩) ∧ Below w.heap.size w w' := by
  have hal : Below w.heap.size w (w.alloc (itc k s aF fs.length cF aL ws.length cL x)) := (Below.refl _ _).alloc (Nat.le_refl _) _
  have hmy := may_any k x s aF cF fs aL cL ws _ (hF.later hal) (hL.later hal) hlF hlL
  rw [hm] at hmy
  have HP := Lib.hid (show Dp.putS ⟨k, s, fs, ws, x⟩ = [] by unfold Dp.putS; rw [hm]; rfl)
  unfold itc at hmy hal
  unfold itv at hmy ⊢
  have HMy := Lib.hid hmy
  have HAl := Lib.hid hal
  clear hmy hal hm hF hL
  generalize fs.length = nF at *
  generalize ws.length = nL at *
  go_enter Tryz.func10, Tryz.ntmps10
  go_wp2_with fail
  refine HMy.out.mono ?_
  rintro e w1 ⟨rfl, hb⟩
  have HB1 := Lib.hid (HAl.out.trans (hb.mono HAl.out.size))
  clear hb
  go_wp2
  go_ret
  exact ⟨by rw [HP.out]; rfl, HB1.out⟩

set_option maxRecDepth 100000 in
set_option maxHeartbeats 8000000 in
theorem put_yes (k x : Int) (s : List UInt8) (aF : Option Addr) (cF : Nat) (fs : List (List UInt8 × List UInt8)) (aL : Option Addr) (cL : Nat) (ws : List (List UInt8)) (w : World) (hF : Fds w aF cF fs) (hL : Wds w aL cL ws) (hlF : fs.length ≤ 1000000) (hlL : ws.length ≤ 1000000) (hm : It.mayB ⟨k, s, fs, ws, x⟩ = true) (henv : Env w) :
    Calls Tryz.prog 10 #[itv k s aF fs.length cF aL ws.length cL x] w fun e w' => e = .returned (.string ⟨(Dp.putS ⟨k, s, fs, ws, x⟩).toArray⟩) ∧ Below w.heap.size w w' := by
  have hal : Below w.heap.size w (w.alloc (itc k s aF fs.length cF aL ws.length cL x)) := (Below.refl _ _).alloc (Nat.le_refl _) _
  have hbx := ItBox.new w k s aF fs.length cF aL ws.length cL x
  have hmy := may_any k x s aF cF fs aL cL ws _ (hF.later hal) (hL.later hal) hlF hlL
  rw [hm] at hmy
  obtain ⟨i8, hi8, hi80, hi81, hi82⟩ := info_parts dp_info8
  have hcw := fun W2 (hb : Below w.heap.size w W2) (Bx : Nat) (h : ItBox W2 Bx k s aF fs.length cF aL ws.length cL x) => collect_words Bx k x s aF cF fs aL cL ws W2 h (hF.later hb) (hL.later hb) hm (henv.later hb)
  obtain ⟨wl, hwl⟩ : ∃ wl, Dp.wordsI ⟨k, s, fs, ws, x⟩ = wl := ⟨_, rfl⟩
  have HP := Lib.hid (show Dp.putS ⟨k, s, fs, ws, x⟩ = Dp.encW wl ++ Dp.crc2 (Dp.encW wl) by unfold Dp.putS; rw [hm, ← hwl]; rfl)
  have hw1 := (Dp.wordsI_len hm).2
  have hw2 := Dp.wordsI_each hm
  rw [hwl] at hw1 hw2
  simp only [hwl] at hcw
  have hel := Dp.encW_len hw1 hw2
  have HWo := Lib.hid (fun (W3 : World) (a : Option Addr) (c : Nat) (hw : Wl W3 a c wl) (he : Env W3) => words_any wl a c W3 (by omega) (fun t ht => by have := hw2 t ht; omega) hw he)
  have HMk := Lib.hid (fun W => dwords_mk k s aF fs.length cF aL ws.length cL x W)
  unfold itc at hmy hal hbx
  unfold itv at hmy HMk ⊢
  unfold itc at HMk
  have HMy := Lib.hid hmy
  have HAl := Lib.hid hal
  have HBx := Lib.hid hbx
  have HCw := Lib.hid hcw
  have HEn := Lib.hid henv
  clear hmy hal hm hF hL hbx hcw hwl hw2 henv
  generalize fs.length = nF at *
  generalize ws.length = nL at *
  obtain ⟨m, hm⟩ : ∃ m, wl.length = m := ⟨_, rfl⟩
  rw [hm] at HCw HWo
  clear hm
  go_enter Tryz.func10, Tryz.ntmps10
  go_wp2_with fail
  refine HMy.out.mono ?_
  rintro e w1 ⟨rfl, hb⟩
  have HB1 := Lib.hid (HAl.out.trans (hb.mono HAl.out.size))
  obtain ⟨b0, b1, b2, b3, b4⟩ := (HBx.out.later hb).at
  clear hb HMy HBx HAl
  go_wp2_with fail
  refine (HMk.out _).mono ?_
  rintro e w2 ⟨rfl, hw2⟩
  have hbx2 : ItBox w2 w1.heap.size k s aF nF cF aL nL cL x := by rw [hw2]; exact ItBox.new w1 k s aF nF cF aL nL cL x
  have hb2 : Below w.heap.size w w2 := by rw [hw2]; exact HB1.out.alloc HB1.out.size _
  have HC2 := Lib.hid (HCw.out w2 hb2 w1.heap.size hbx2)
  have HB2 := Lib.hid hb2
  clear hbx2 hb2 hw2 HCw HMk b0 b1 b2 b3 b4 HB1
  go_wp2_with fail
  refine HC2.out.mono ?_
  rintro e w3 ⟨a3, c3, rfl, hwl3, hb3⟩
  have HB3 := Lib.hid (HB2.out.trans (hb3.mono HB2.out.size))
  have HW3 := Lib.hid (HWo.out w3 a3 c3 hwl3 (HEn.out.later HB3.out))
  clear hwl3 hb3 HC2 HB2 HWo
  go_wp2_with fail
  refine HW3.out.mono ?_
  rintro e w4 ⟨v4, rfl, hbuf, hb4⟩
  rw [show Rp.enc (wordsR wl) = Dp.encW wl from Dp.enc_words wl] at hbuf
  obtain ⟨B, hB⟩ : ∃ B, Dp.encW wl = B := ⟨_, rfl⟩
  rw [hB] at hbuf hel HP
  have HPB := Lib.hid HP.out
  obtain ⟨a4, c4, rfl, hbt⟩ := hbuf.bt
  have hby : Bytes w4 a4 B := hbt.2.2.imp id fun ⟨b, off, h1, h2, h3, h4⟩ => ⟨b, off, h1, h4⟩
  have hcrc := crc_any a4 c4 B w4 (by omega) hby
  have HCr := Lib.hid hcrc
  have HB4 := Lib.hid (HB3.out.trans (hb4.mono HB3.out.size))
  have hz34 := hb4.size
  have HBf : Hid (w4.ownsRow w3.heap.size 5 1 (.slice a4 B.length c4) B.length (Lib.byteCells B)) := Lib.hid hbuf
  clear hB hbuf hbt hby hcrc hb4 HW3 HP
  have hcl := Crc16.crc_lt B
  obtain ⟨bl, hbl⟩ : ∃ bl, B.length = bl := ⟨_, rfl⟩
  rw [hbl] at hel HCr HBf
  go_wp2_with fail
  refine HCr.out.mono ?_
  rintro e w5 ⟨rfl, rfl⟩
  have HCC := Lib.hid (crc_cells B)
  generalize ((Crc16.crc B : Nat) : Int) = cI at *
  go_wp2_with (at_builtin; refine wpList_append_own_at _ rfl (.tmp 14) (.tmp 20) 36 rfl w3.heap.size 5 i8 (.int .u8 0) 1 1 Tryz.underlying36 hi8 hi80 hi81 hi82 rfl (by decide) _ _ _ rfl (HBf.out.alloc _) ⟨w4.heap.size, 0, none⟩ 2 2 [.int .u8 (cI / 256 % 256), .int .u8 (cI % 256)] rfl rfl (two8_news w4 _ _ _) (by simp [Value.oneCell']) (by unfold maxLen; omega) (by omega) (by simp; omega) ?_)
  intro v6 w6 hown hgrow _ _
  have hbuf6 : Buf w3.heap.size (B ++ Dp.crc2 B) v6 w6 := by
    unfold Buf
    rw [List.length_append, hbl, show (Dp.crc2 B).length = 2 from rfl, show Lib.byteCells (B ++ Dp.crc2 B) = Lib.byteCells B ++ Lib.byteCells (Dp.crc2 B) by simp [Lib.byteCells], ← HCC.out]
    exact hown
  have hcv := hbuf6.conv
  have hk : Keeps (fun j => some j ≠ (Value.slice a4 bl c4).ownBlock) w4 w6 := ((Keeps.refl _ w4).alloc _).trans (Keeps.of_grown hgrow fun r e h => h e.symm)
  have HB6 := Lib.hid (HB4.out.trans ((hk.below (show w3.heap.size ≤ w4.heap.size from hz34) fun j hj e => by have := (HBf.out.lt j e.symm).1; omega).mono HB3.out.size))
  obtain ⟨a6, n6, c6, rfl⟩ := hbuf6.form
  clear hown hgrow hbuf6 hk HBf HCr HCC HB4
  go_wp2
  go_ret
  refine ⟨?_, HB6.out⟩
  rw [HPB.out]
  first | rfl | (simp; done) | (congr 2; simp)

theorem dput_any (k x : Int) (s : List UInt8) (aF : Option Addr) (cF : Nat) (fs : List (List UInt8 × List UInt8)) (aL : Option Addr) (cL : Nat) (ws : List (List UInt8)) (w : World) (hF : Fds w aF cF fs) (hL : Wds w aL cL ws) (hlF : fs.length ≤ 1000000) (hlL : ws.length ≤ 1000000) (henv : Env w) :
    Calls Tryz.prog 10 #[itv k s aF fs.length cF aL ws.length cL x] w fun e w' => e = .returned (.string ⟨(Dp.putS ⟨k, s, fs, ws, x⟩).toArray⟩) ∧ Below w.heap.size w w' := by
  cases hm : It.mayB ⟨k, s, fs, ws, x⟩ with
  | false => exact put_no k x s aF cF fs aL cL ws w hF hL hlF hlL hm
  | true => exact put_yes k x s aF cF fs aL cL ws w hF hL hlF hlL hm henv
end Go.Proofs.YtbkhnnjjpelfcaaGreatDoor
