/- The contract of the reader's line, where bytes.IndexAny keeps its own. -/
import Derived.Test.YtcjbfgkmpoebgaaDoorRpNumberAny
namespace Go.Proofs.YtcjbfgkmpoebgaaDoor
open Go.RowKit Go.Shelf
attribute [local go_sem] Oper.semAt_some

namespace Rp
/-- the bytes ahead of a line's end. -/
def runL (bs : List UInt8) : List UInt8 := bs.takeWhile fun b => b != 13 && b != 10

theorem runL_le (bs : List UInt8) : (runL bs).length ≤ bs.length := (List.takeWhile_sublist _).length_le

theorem take_runL (bs : List UInt8) : bs.take (runL bs).length = runL bs := by
  have h := List.takeWhile_append_dropWhile (p := fun b : UInt8 => b != 13 && b != 10) (l := bs)
  have : runL bs ++ bs.dropWhile (fun b => b != 13 && b != 10) = bs := h
  conv => lhs; rw [← this]
  generalize bs.dropWhile (fun b => b != 13 && b != 10) = d at this
  have e : runL (runL bs ++ d) = runL bs := by rw [this]
  rw [e, List.take_left]

theorem runL_take (n : Nat) : ∀ bs : List UInt8, runL (bs.take n) = (runL bs).take n := by
  induction n with
  | zero => intro bs; simp [runL]
  | succ n ih =>
    intro bs
    cases bs with
    | nil => simp [runL]
    | cons x bs =>
      have := ih bs
      unfold runL at this ⊢
      rw [List.take_succ_cons, List.takeWhile_cons, List.takeWhile_cons]
      split
      · rw [List.take_succ_cons, this]
      · simp

theorem line_text (bs : List UInt8) : textP (runL (bs.take 512)).length bs = lineP bs := by
  have hle := runL_le bs
  unfold lineP textP
  show _ = if 512 < (runL bs).length then .err 5 else endP (runL bs) (bs.drop (runL bs).length)
  rw [runL_take, List.length_take]
  by_cases h : 512 < (runL bs).length
  · rw [if_pos h, show min 512 (runL bs).length = 512 by omega, if_neg (by omega)]
    have h2 : (bs.drop 512).head? = (runL bs)[512]? := by
      rw [List.head?_drop]
      have := congrArg (fun l => l[512]?) (take_runL bs)
      simp only [List.getElem?_take, h, if_true] at this
      exact this
    have h3 : (runL bs)[512]? = some ((runL bs)[512]'h) := List.getElem?_eq_getElem h
    have h4 : (runL bs)[512]'h ∈ runL bs := List.getElem_mem h
    have h5 : ∀ x ∈ runL bs, (x != 13 && x != 10) = true := fun x hx => by
      have := List.all_takeWhile (p := fun b : UInt8 => b != 13 && b != 10) (l := bs)
      exact List.all_eq_true.1 this x hx
    have h6 := h5 _ h4
    rw [h3] at h2
    cases hd : bs.drop 512 with
    | nil => rw [hd] at h2; cases h2
    | cons y r =>
      rw [hd] at h2
      simp only [List.head?_cons, Option.some.injEq] at h2
      rw [← h2] at h6
      unfold endP
      simp only [Bool.and_eq_true, bne_iff_ne] at h6
      simp [h6.1]
  · rw [if_neg h, show min 512 (runL bs).length = (runL bs).length by omega, if_neg (by omega), take_runL]
end Rp

/-- what bytes.IndexAny says of these bytes and "\r\n". -/
def IA (t : List UInt8) : Prop := ∀ (S : Nat → Prop) (W : World) (a : Option Addr) (cap : Nat), Bt S W a cap t → Env W →
  Calls Tryd.prog 49 #[.slice a t.length cap, .string ⟨#[13, 10]⟩] W fun e W' => e = .returned (.int .i64 (if (Rp.runL t).length = t.length then -1 else ((Rp.runL t).length : Int))) ∧ Below W.heap.size W W'

set_option maxRecDepth 100000 in
set_option maxHeartbeats 2000000 in
theorem line_any (S : Nat → Prop) (Pb : Nat) (bs : List UInt8) (w : World) (h : Rst S Pb w bs) (hS : ¬ S Pb) (hSlt : ∀ k, S k → k < w.heap.size) (henv : Env w) (hia : IA (bs.take 512)) :
    Calls Tryd.prog 38 #[.pointer (some ⟨Pb, 0, none⟩)] w (TOut S Pb w (Rp.lineP bs)) := by
  have HRST := Lib.hid h
  obtain ⟨a, cap, hbx, hbt⟩ := h
  have hPb : Pb < w.heap.size := (Array.getElem?_eq_some_iff.1 hbx).1
  have hl := hbt.1
  have hnear := near_any Pb bs.length cap a 512 w (Boxed.cell hbx) hl
  rw [show min bs.length 512 = (bs.take 512).length by rw [List.length_take]; omega] at hnear
  rw [← Rp.line_text]
  have hrl := Rp.runL_le (bs.take 512)
  have htl : (bs.take 512).length ≤ 512 := by rw [List.length_take]; omega
  have HIA : Hid (∀ W, Below w.heap.size w W → Calls Tryd.prog 49 #[.slice a (bs.take 512).length cap, .string ⟨#[13, 10]⟩] W fun e W' => e = .returned (.int .i64 (if (Rp.runL (bs.take 512)).length = (bs.take 512).length then -1 else ((Rp.runL (bs.take 512)).length : Int))) ∧ Below W.heap.size W W') :=
    Lib.hid fun W hb => hia S W a cap ((hbt.later hb).to 512) (henv.later hb)
  have HTXT : Hid (∀ W, Below w.heap.size w W → Calls Tryd.prog 50 #[.pointer (some ⟨Pb, 0, none⟩), .int .i64 (Rp.runL (bs.take 512)).length] W (TOut S Pb W (Rp.textP (Rp.runL (bs.take 512)).length bs))) :=
    Lib.hid fun W hb => text_any S Pb bs _ W (HRST.out.keeps (T := fun k => k < w.heap.size) (Keeps.of_below hb fun k h _ => h) hSlt hPb) hS
  have HNEAR := Lib.hid hnear
  clear hnear hia hbt hbx henv HRST
  generalize Rp.textP (Rp.runL (bs.take 512)).length bs = o at HTXT ⊢
  generalize (Rp.runL (bs.take 512)).length = rl at HIA HTXT hrl
  generalize (bs.take 512).length = tl at HIA HNEAR hrl htl
  by_cases he : rl = tl
  · subst he
    rw [if_pos rfl] at HIA
    go_enter Tryd.func38, Tryd.ntmps38
    go_wp2_with (first
      | (go_at_call 48; refine HNEAR.out.mono ?_; rintro e w1 ⟨rfl, hb1⟩; have HB1 := Lib.hid hb1; clear hb1)
      | (go_at_call 49; refine (HIA.out w1 HB1.out).mono ?_; rintro e w2 ⟨rfl, hb2⟩; have HB2 := Lib.hid (HB1.out.trans (hb2.mono HB1.out.size)); clear hb2)
      | (go_at_call 50; refine (HTXT.out w2 HB2.out).mono ?_; rintro e w3 ht; obtain ⟨sv, c5, rfl⟩ := ht.ret; have HT := Lib.hid ht; clear ht))
    go_ret2
    exact ⟨(Keeps.of_below HB2.out fun k h _ => h).trans (HT.out.1.mono fun k _ h => h), HT.out.2⟩
  · rw [if_neg he] at HIA
    have h0 : (0 : Int) ≤ (rl : Int) := by omega
    have h1 : ¬ (rl : Int) < 0 := by omega
    go_enter Tryd.func38, Tryd.ntmps38
    go_wp2_with (first
      | (go_at_call 48; refine HNEAR.out.mono ?_; rintro e w1 ⟨rfl, hb1⟩; have HB1 := Lib.hid hb1; clear hb1)
      | (go_at_call 49; refine (HIA.out w1 HB1.out).mono ?_; rintro e w2 ⟨rfl, hb2⟩; have HB2 := Lib.hid (HB1.out.trans (hb2.mono HB1.out.size)); clear hb2)
      | (go_at_call 50; refine (HTXT.out w2 HB2.out).mono ?_; rintro e w3 ht; obtain ⟨sv, c5, rfl⟩ := ht.ret; have HT := Lib.hid ht; clear ht))
    go_ret2
    exact ⟨(Keeps.of_below HB2.out fun k h _ => h).trans (HT.out.1.mono fun k _ h => h), HT.out.2⟩
end Go.Proofs.YtcjbfgkmpoebgaaDoor
