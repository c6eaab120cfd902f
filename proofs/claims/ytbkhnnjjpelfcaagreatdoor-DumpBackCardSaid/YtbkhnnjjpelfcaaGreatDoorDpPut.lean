/- The contract of Put (10.1). -/
import Derived.Test.YtbkhnnjjpelfcaaGreatDoorDpWords
import Derived.Test.YtbkhnnjjpelfcaaGreatDoorDpCollect
import Derived.Test.YtbkhnnjjpelfcaaGreatDoorDpEnc
import Derived.Test.YtbkhnnjjpelfcaaGreatDoorRpWords
import Derived.Test.YtbkhnnjjpelfcaaGreatDoorSlotCrc
import Derived.Maps.AppendAt
namespace Go.Proofs.YtbkhnnjjpelfcaaGreatDoor
open Go.RowKit Go.Shelf
attribute [local go_sem] Oper.semAt_some
set_option linter.unusedVariables false
set_option linter.unusedSimpArgs false

theorem dwords_mk (k : Int) (s : List UInt8) (aF : Option Addr) (nF cF : Nat) (aL : Option Addr) (nL cL : Nat) (x : Int) (w : World) : Calls Tryz.prog 21 #[itv k s aF nF cF aL nL cL x] w fun e w' =>
    e = .returned (.func (.func 40) #[] #[.pointer (some ⟨w.heap.size, 0, none⟩)]) ∧ w' = w.alloc (itc k s aF nF cF aL nL cL x) := by
  unfold itv
  go_enter Tryz.func21, Tryz.ntmps21
  go_wp2
  go_ret
  exact ⟨rfl, rfl⟩
theorem dp_info8 : (Tryz.prog.info? 5).map (fun i => (i.zero, i.size, i.bytes)) = some (some (.int .u8 0), 1, 1) := by kernel_rfl
theorem crc_cells (B : List UInt8) : [Value.int .u8 (((Crc16.crc B : Nat) : Int) / 256 % 256), Value.int .u8 (((Crc16.crc B : Nat) : Int) % 256)] = Lib.byteCells (Dp.crc2 B) := by
  have h := Crc16.crc_lt B
  unfold Dp.crc2 Lib.byteCells
  have e : ∀ n, n < 256 → ((UInt8.ofNat n).toNat : Int) = (n : Int) := fun n hn => by rw [UInt8.toNat_ofNat']; omega
  simp only [List.map_cons, List.map_nil]
  rw [e _ (by omega), e _ (by omega)]
  congr 2
  · omega
theorem two8_news (w : World) (x y : Value) (t : TypeId) : ∀ (j : Nat) (u : Value), [x, y][j]? = some u → (w.alloc (.cells #[x, y] t)).cell? ((⟨w.heap.size, 0, none⟩ : Addr).add j) = some u :=
  fun j u h => World.news_of_block (World.alloc_heap_new w (.cells #[x, y] t)) j u h

/-- the words, collected. -/
theorem collect_words (Bx : Nat) (k x : Int) (s : List UInt8) (aF : Option Addr) (cF : Nat) (fs : List (List UInt8 × List UInt8)) (aL : Option Addr) (cL : Nat) (ws : List (List UInt8)) (w : World) (h1 : ItBox w Bx k s aF fs.length cF aL ws.length cL x)
    (hF : Fds w aF cF fs) (hL : Wds w aL cL ws) (hm : It.mayB ⟨k, s, fs, ws, x⟩ = true) (henv : Env w) :
    Calls Tryz.prog 20 #[.func (.func 40) #[] #[.pointer (some ⟨Bx, 0, none⟩)]] w fun e W => ∃ a c, e = .returned (.slice a (Dp.wordsI ⟨k, s, fs, ws, x⟩).length c) ∧ Wl W a c (Dp.wordsI ⟨k, s, fs, ws, x⟩) ∧ Below w.heap.size w W := by
  have hle : 3 + 2 * fs.length + ws.length ≤ 1000000 := by
    obtain ⟨-, -, -, c⟩ := Dp.may_cases hm
    simp only at c
    rcases c with ⟨-, rfl, rfl⟩ | ⟨-, -, -, h, -, rfl⟩ | ⟨-, -, rfl, -, h⟩ <;> (simp; try omega)
  have hseq := words_seq Bx k s aF cF fs aL cL ws x w h1 hF hL hm henv (fun j => j < w.heap.size) (fun _ => False) (fun j hj => by have := henv.size; omega) h1.lt
    (fun b off e h => by obtain ⟨b', off', e', hb', -⟩ := hF.get h; rw [e] at e'; cases e'; exact hb') (fun b off e h => by obtain ⟨b', off', e', hb', -⟩ := hL.get h; rw [e] at e'; cases e'; exact hb')
  refine (callsIn_wide.1 (collect_any 40 _ (enters_of Tryz.func40 (by kernel_rfl) rfl) _ _ _ _ w w hle hseq (Below.refl _ _) (fun _ h => h))).mono ?_
  rintro e W ⟨v, ys, rfl, rfl, hrow, -, hb⟩
  obtain ⟨a, c, rfl, hw, -⟩ := wds_of_row hrow (fun t ht => by have := Dp.wordsI_each hm t ht; omega)
  exact ⟨a, c, rfl, hw, hb⟩

set_option maxRecDepth 100000 in
set_option maxHeartbeats 4000000 in
theorem put_no (k x : Int) (s : List UInt8) (aF : Option Addr) (cF : Nat) (fs : List (List UInt8 × List UInt8)) (aL : Option Addr) (cL : Nat) (ws : List (List UInt8)) (w : World) (hF : Fds w aF cF fs) (hL : Wds w aL cL ws) (hlF : fs.length ≤ 1000000) (hlL : ws.length ≤ 1000000) (hm : It.mayB ⟨k, s, fs, ws, x⟩ = false) :
    Calls Tryz.prog 10 #[itv k s aF fs.length cF aL ws.length cL x] w fun e w' => e = .returned (.string ⟨(Dp.putS ⟨k, s, fs, ws, x⟩).toArray⟩) ∧ Below w.heap.size w w' := by
  have hal : Below w.heap.size w (w.alloc (itc k s aF fs.length cF aL ws.length cL x)) := (Below.refl _ _).alloc (Nat.le_refl _) _
  have hmy := may_any k x s aF cF fs aL cL ws _ (hF.later hal) (hL.later hal) hlF hlL
  rw [hm] at hmy
  have HP := Lib.hid (show Dp.putS ⟨k, s, fs, ws, x⟩ = [] by unfold Dp.putS; rw [hm]; rfl)
  unfold itc at hmy hal
  unfold itv at hmy ⊢
  have HMy := Lib.hid hmy
  have HAl := Lib.hid hal
  clear hmy hal hm hF hL
  generalize fs.length = nF at *
  generalize ws.length = nL at *
  go_enter Tryz.func10, Tryz.ntmps10
  go_wp2_with fail
  refine HMy.out.mono ?_
  rintro e w1 ⟨rfl, hb⟩
  have HB1 := Lib.hid (HAl.out.trans (hb.mono HAl.out.size))
  clear hb
  go_wp2
  go_ret
  exact ⟨by rw [HP.out]; rfl, HB1.out⟩

set_option maxRecDepth 100000 in
set_option maxHeartbeats 8000000 in
theorem put_yes (k x : Int) (s : List UInt8) (aF : Option Addr) (cF : Nat) (fs : List (List UInt8 × List UInt8)) (aL : Option Addr) (cL : Nat) (ws : List (List UInt8)) (w : World) (hF : Fds w aF cF fs) (hL : Wds w aL cL ws) (hlF : fs.length ≤ 1000000) (hlL : ws.length ≤ 1000000) (hm : It.mayB ⟨k, s, fs, ws, x⟩ = true) (henv : Env w) :
    Calls Tryz.prog 10 #[itv k s aF fs.length cF aL ws.length cL x] w fun e w' => e = .returned (.string ⟨(Dp.putS ⟨k, s, fs, ws, x⟩).toArray⟩) ∧ Below w.heap.size w w' := by
  have hal : Below w.heap.size w (w.alloc (itc k s aF fs.length cF aL ws.length cL x)) := (Below.refl _ _).alloc (Nat.le_refl _) _
  have hbx := ItBox.new w k s aF fs.length cF aL ws.length cL x
  have hmy := may_any k x s aF cF fs aL cL ws _ (hF.later hal) (hL.later hal) hlF hlL
  rw [hm] at hmy
  obtain ⟨i8, hi8, hi80, hi81, hi82⟩ := info_parts dp_info8
  have hcw := fun W2 (hb : Below w.heap.size w W2) (Bx : Nat) (h : ItBox W2 Bx k s aF fs.length cF aL ws.length cL x) => collect_words Bx k x s aF cF fs aL cL ws W2 h (hF.later hb) (hL.later hb) hm (henv.later hb)
  obtain ⟨wl, hwl⟩ : ∃ wl, Dp.wordsI ⟨k, s, fs, ws, x⟩ = wl := ⟨_, rfl⟩
  have HP := Lib.hid (show Dp.putS ⟨k, s, fs, ws, x⟩ = Dp.encW wl ++ Dp.crc2 (Dp.encW wl) by unfold Dp.putS; rw [hm, ← hwl]; rfl)
  have hw1 := (Dp.wordsI_len hm).2
  have hw2 := Dp.wordsI_each hm
  rw [hwl] at hw1 hw2
  simp only [hwl] at hcw
  have hel := Dp.encW_len hw1 hw2
  have HWo := Lib.hid (fun (W3 : World) (a : Option Addr) (c : Nat) (hw : Wl W3 a c wl) (he : Env W3) => words_any wl a c W3 (by omega) (fun t ht => by have := hw2 t ht; omega) hw he)
  have HMk := Lib.hid (fun W => dwords_mk k s aF fs.length cF aL ws.length cL x W)
  unfold itc at hmy hal hbx
  unfold itv at hmy HMk ⊢
  unfold itc at HMk
  have HMy := Lib.hid hmy
  have HAl := Lib.hid hal
  have HBx := Lib.hid hbx
  have HCw := Lib.hid hcw
  have HEn := Lib.hid henv
  clear hmy hal hm hF hL hbx hcw hwl hw2 henv
  generalize fs.length = nF at *
  generalize ws.length = nL at *
  obtain ⟨m, hm⟩ : ∃ m, wl.length = m := ⟨_, rfl⟩
  rw [hm] at HCw HWo
  clear hm
  go_enter Tryz.func10, Tryz.ntmps10
  go_wp2_with fail
  refine HMy.out.mono ?_
  rintro e w1 ⟨rfl, hb⟩
  have HB1 := Lib.hid (HAl.out.trans (hb.mono HAl.out.size))
  obtain ⟨b0, b1, b2, b3, b4⟩ := (HBx.out.later hb).at
  clear hb HMy HBx HAl
  go_wp2_with fail
  refine (HMk.out _).mono ?_
  rintro e w2 ⟨rfl, hw2⟩
  have hbx2 : ItBox w2 w1.heap.size k s aF nF cF aL nL cL x := by rw [hw2]; exact ItBox.new w1 k s aF nF cF aL nL cL x
  have hb2 : Below w.heap.size w w2 := by rw [hw2]; exact HB1.out.alloc HB1.out.size _
  have HC2 := Lib.hid (HCw.out w2 hb2 w1.heap.size hbx2)
  have HB2 := Lib.hid hb2
  clear hbx2 hb2 hw2 HCw HMk b0 b1 b2 b3 b4 HB1
  go_wp2_with fail
  refine HC2.out.mono ?_
  rintro e w3 ⟨a3, c3, rfl, hwl3, hb3⟩
  have HB3 := Lib.hid (HB2.out.trans (hb3.mono HB2.out.size))
  have HW3 := Lib.hid (HWo.out w3 a3 c3 hwl3 (HEn.out.later HB3.out))
  clear hwl3 hb3 HC2 HB2 HWo
  go_wp2_with fail
  refine HW3.out.mono ?_
  rintro e w4 ⟨v4, rfl, hbuf, hb4⟩
  rw [show Rp.enc (wordsR wl) = Dp.encW wl from Dp.enc_words wl] at hbuf
  obtain ⟨B, hB⟩ : ∃ B, Dp.encW wl = B := ⟨_, rfl⟩
  rw [hB] at hbuf hel HP
  have HPB := Lib.hid HP.out
  obtain ⟨a4, c4, rfl, hbt⟩ := hbuf.bt
  have hby : Bytes w4 a4 B := hbt.2.2.imp id fun ⟨b, off, h1, h2, h3, h4⟩ => ⟨b, off, h1, h4⟩
  have hcrc := crc_any a4 c4 B w4 (by omega) hby
  have HCr := Lib.hid hcrc
  have HB4 := Lib.hid (HB3.out.trans (hb4.mono HB3.out.size))
  have hz34 := hb4.size
  have HBf : Hid (w4.ownsRow w3.heap.size 5 1 (.slice a4 B.length c4) B.length (Lib.byteCells B)) := Lib.hid hbuf
  clear hB hbuf hbt hby hcrc hb4 HW3 HP
  have hcl := Crc16.crc_lt B
  obtain ⟨bl, hbl⟩ : ∃ bl, B.length = bl := ⟨_, rfl⟩
  rw [hbl] at hel HCr HBf
  go_wp2_with fail
  refine HCr.out.mono ?_
  rintro e w5 ⟨rfl, rfl⟩
  have HCC := Lib.hid (crc_cells B)
  generalize ((Crc16.crc B : Nat) : Int) = cI at *
  go_wp2_with (at_builtin; refine wpList_append_own_at _ rfl (.tmp 14) (.tmp 20) 36 rfl w3.heap.size 5 i8 (.int .u8 0) 1 1 Tryz.underlying36 hi8 hi80 hi81 hi82 rfl (by decide) _ _ _ rfl (HBf.out.alloc _) ⟨w4.heap.size, 0, none⟩ 2 2 [.int .u8 (cI / 256 % 256), .int .u8 (cI % 256)] rfl rfl (two8_news w4 _ _ _) (by simp [Value.oneCell']) (by unfold maxLen; omega) (by omega) (by simp; omega) ?_)
  intro v6 w6 hown hgrow _ _
  have hbuf6 : Buf w3.heap.size (B ++ Dp.crc2 B) v6 w6 := by
    unfold Buf
    rw [List.length_append, hbl, show (Dp.crc2 B).length = 2 from rfl, show Lib.byteCells (B ++ Dp.crc2 B) = Lib.byteCells B ++ Lib.byteCells (Dp.crc2 B) by simp [Lib.byteCells], ← HCC.out]
    exact hown
  have hcv := hbuf6.conv
  have hk : Keeps (fun j => some j ≠ (Value.slice a4 bl c4).ownBlock) w4 w6 := ((Keeps.refl _ w4).alloc _).trans (Keeps.of_grown hgrow fun r e h => h e.symm)
  have HB6 := Lib.hid (HB4.out.trans ((hk.below (show w3.heap.size ≤ w4.heap.size from hz34) fun j hj e => by have := (HBf.out.lt j e.symm).1; omega).mono HB3.out.size))
  obtain ⟨a6, n6, c6, rfl⟩ := hbuf6.form
  clear hown hgrow hbuf6 hk HBf HCr HCC HB4
  go_wp2
  go_ret
  refine ⟨?_, HB6.out⟩
  rw [HPB.out]
  first | rfl | (simp; done) | (congr 2; simp)

theorem dput_any (k x : Int) (s : List UInt8) (aF : Option Addr) (cF : Nat) (fs : List (List UInt8 × List UInt8)) (aL : Option Addr) (cL : Nat) (ws : List (List UInt8)) (w : World) (hF : Fds w aF cF fs) (hL : Wds w aL cL ws) (hlF : fs.length ≤ 1000000) (hlL : ws.length ≤ 1000000) (henv : Env w) :
    Calls Tryz.prog 10 #[itv k s aF fs.length cF aL ws.length cL x] w fun e w' => e = .returned (.string ⟨(Dp.putS ⟨k, s, fs, ws, x⟩).toArray⟩) ∧ Below w.heap.size w w' := by
  cases hm : It.mayB ⟨k, s, fs, ws, x⟩ with
  | false => exact put_no k x s aF cF fs aL cL ws w hF hL hlF hlL hm
  | true => exact put_yes k x s aF cF fs aL cL ws w hF hL hlF hlL hm henv
end Go.Proofs.YtbkhnnjjpelfcaaGreatDoor
