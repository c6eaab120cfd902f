/- The contracts of the reference's put at arrays, and of PutReply. -/
import Derived.Test.YtcjbfgkmpoebgaaDoorRpRefPut
namespace Go.Proofs.YtcjbfgkmpoebgaaDoor
open Go.RowKit Go.Shelf
attribute [local go_sem] Oper.semAt_some
set_option linter.unusedVariables false
set_option linter.unusedSimpArgs false

theorem encL_take {l : List Rp.R} {q : Nat} (h : q < l.length) : Rp.encL (l.take (q + 1)) = Rp.encL (l.take q) ++ Rp.enc l[q] := by
  have happ : ∀ a b : List Rp.R, Rp.encL (a ++ b) = Rp.encL a ++ Rp.encL b := by
    intro a b
    induction a with
    | nil => simp [Rp.encL]
    | cons x a ih => rw [List.cons_append, Rp.encL, Rp.encL, ih, List.append_assoc]
  rw [List.take_succ_eq_append_getElem h, happ]
  simp [Rp.encL]
theorem encL_le (l : List Rp.R) (q : Nat) : (Rp.encL (l.take q)).length ≤ (Rp.encL l).length := by
  have happ : ∀ a b : List Rp.R, Rp.encL (a ++ b) = Rp.encL a ++ Rp.encL b := by
    intro a b
    induction a with
    | nil => simp [Rp.encL]
    | cons x a ih => rw [List.cons_append, Rp.encL, Rp.encL, ih, List.append_assoc]
  have := congrArg List.length (happ (l.take q) (l.drop q))
  rw [List.take_append_drop, List.length_append] at this
  omega
theorem enc_s_le {k : Int} {s : List UInt8} {n : Int} {l : List Rp.R} (h : Rp.fitsB ⟨k, s, n, l.length⟩ = true) : s.length ≤ (Rp.enc (.mk k s n l)).length := by
  by_cases hs : s = []
  · subst hs; simp
  · have hk : k = 1 ∨ k = 2 ∨ k = 4 := by
      unfold Rp.fitsB at h
      by_cases h1 : k = 1
      · exact .inl h1
      · by_cases h2 : k = 2
        · exact .inr (.inl h2)
        · by_cases h4 : k = 4
          · exact .inr (.inr h4)
          · simp [h1, h2, h4, hs] at h
    rw [Rp.enc]
    rcases hk with rfl | rfl | rfl <;> simp [Rp.own] <;> omega

set_option maxRecDepth 100000 in
set_option maxHeartbeats 8000000 in
theorem put_ref : ∀ (N : Nat) (x : Rp.R) (lev : Nat) (a : Option Addr) (c : Nat) (w : World), (Rp.heads 0 x).length ≤ N → RepA w x (rv x.k x.s x.n a x.l.length c) → (Rp.heads lev x).all Rp.okB = true → (Rp.enc x).length ≤ 900000 →
    Calls Tryd.prog 27 #[rv x.k x.s x.n a x.l.length c] w fun e W => e = .returned (.string ⟨(Rp.enc x).toArray⟩) ∧ Below w.heap.size w W := by
  intro N
  induction N with
  | zero =>
    intro x lev a c w hN
    have := Rp.heads_ne 0 x
    omega
  | succ N ih =>
    intro x lev a c w hN hx hok hel
    have hrec : ∀ j (h : j < x.l.length), (Rp.heads 0 x.l[j]).length ≤ N := fun j h => by have := Rp.heads_lt h; omega
    obtain ⟨k, s, n, l⟩ := x
    simp only [Rp.R.k, Rp.R.s, Rp.R.n, Rp.R.l] at hx hrec ⊢
    obtain ⟨-, hf, hxl⟩ := hx.at
    rw [Rp.heads_all, Bool.and_eq_true] at hok
    obtain ⟨hok1, hok2⟩ := hok
    have hfit : Rp.fitsB ⟨k, s, n, l.length⟩ = true := by
      unfold Rp.okB at hok1
      rw [Bool.and_eq_true] at hok1
      exact hok1.1
    unfold rv
    by_cases hk6 : k = 6
    rotate_left
    · exact put_flat k s n l a c w hf hk6 hfit (by have := enc_s_le hfit; omega)
    subst hk6
    have hsn : s = [] ∧ n = 0 ∧ l.length ≤ 65536 := by
      unfold Rp.fitsB at hfit
      simp at hfit
      exact ⟨hfit.1.1, hfit.1.2, hfit.2⟩
    obtain ⟨rfl, rfl, hm⟩ := hsn
    have he : Rp.enc (.mk 6 [] 0 l) = ([42] ++ Dig.dec (l.length : Int) ++ [13, 10]) ++ Rp.encL l := by rw [Rp.enc]; simp [Rp.own, Rp.crlf]
    rw [he] at hel ⊢
    rw [List.all_eq_true] at hok2
    obtain ⟨f1, f2, f3, f4, f5, f6, f7, f8⟩ := hf
    obtain ⟨D, hD⟩ : ∃ D, Dig.dec (l.length : Int) = D := ⟨_, rfl⟩
    have hDl : D.length ≤ 20 := by rw [← hD]; exact Rp.dec20 (by omega) (by omega)
    have HDG := Lib.hid (fun W => digits_any (l.length : Int) W (by omega) (by omega))
    rw [hD] at HDG hel ⊢
    obtain ⟨T1, hT1⟩ : ∃ T1, [42] ++ D = T1 := ⟨_, rfl⟩
    have u1 : (⟨#[42]⟩ : ByteArray) ++ ⟨D.toArray⟩ = ⟨T1.toArray⟩ := by rw [← hT1]; exact str_add [42] D
    rw [hT1] at hel ⊢
    have hT1l : T1.length ≤ 21 := by rw [← hT1]; simp; omega
    obtain ⟨T, hT⟩ : ∃ T, T1 ++ [13, 10] = T := ⟨_, rfl⟩
    have u2 : (⟨T1.toArray⟩ : ByteArray) ++ ⟨#[13, 10]⟩ = ⟨T.toArray⟩ := by rw [← hT]; exact str_add T1 [13, 10]
    rw [hT] at hel ⊢
    have hTl : T.length ≤ 23 := by rw [← hT]; simp; omega
    rw [List.length_append] at hel
    have HX := Lib.hid hxl
    have HR0 := Lib.hid hrec
    have IH := Lib.hid ih
    have HOK := Lib.hid hok2
    have HEL := Lib.hid hel
    have mI : (l.length : Int) ≤ 65536 := by omega
    have hcv := fun W => sb_conv W T
    obtain ⟨i5, hi5, hi5z, hi5s, hi5b⟩ := info_parts info5
    obtain ⟨w1, hw1⟩ : ∃ w1, w.alloc (.cells #[.int .i64 6, .string ⟨([] : List UInt8).toArray⟩, .int .i64 0, .slice a l.length c] 24) = w1 := ⟨_, rfl⟩
    have hp1 := World.alloc_heap_new w (.cells #[.int .i64 6, .string ⟨([] : List UInt8).toArray⟩, .int .i64 0, .slice a l.length c] 24)
    have hb1 : Below w.heap.size w w1 := by rw [← hw1]; exact (Below.refl _ w).alloc (Nat.le_refl _) _
    rw [hw1] at hp1
    have HW1 := Lib.hid hw1
    have HP1 := Lib.hid hp1
    have HB1 := Lib.hid hb1
    have hz1 : w.heap.size < w1.heap.size := (Array.getElem?_eq_some_iff.1 hp1).1
    obtain ⟨p0, p1, p2, p3⟩ := cells_four hp1
    clear hx hN hxl hrec ih hok1 hok2 hfit he hD hT1 hT hel hw1 hp1 hb1
    go_enter Tryd.func27, Tryd.ntmps27
    go_upto_region 1 with (fail)
    rw [show w.alloc (.cells #[.int .i64 6, .string ⟨([] : List UInt8).toArray⟩, .int .i64 0, .slice a l.length c] 24) = w1 from HW1.out]
    clear HW1
    go_wp2_with fail
    refine (HDG.out w1).mono ?_
    rintro e w2 ⟨rfl, hb2⟩
    have HB2 := Lib.hid (HB1.out.trans (hb2.mono HB1.out.size))
    have HP2 := Lib.hid ((hb2.block _ hz1).trans HP1.out)
    have hz2 : w1.heap.size ≤ w2.heap.size := hb2.size
    clear hb2 p0 p1 p2 p3 HDG
    go_upto_region 14 with (fail)
    obtain ⟨w3, hw3⟩ : ∃ w3, Lib.bytesWorld w2 5 ⟨T.toArray⟩ = w3 := ⟨_, rfl⟩
    have ho3 := own8_new w2 T (by omega)
    have hb3 : Below w2.heap.size w2 w3 := by rw [← hw3]; exact Lib.bytesWorld_below w2 5 ⟨T.toArray⟩
    rw [hw3] at ho3 ⊢
    have HO3 := Lib.hid (ho3.down (base' := w1.heap.size) hz2)
    have HP3 := Lib.hid ((hb3.block _ (by omega)).trans HP2.out)
    have HB3 := Lib.hid (HB2.out.trans (hb3.mono HB2.out.size))
    clear hw3 ho3 hb3 HB2 HP2 hcv u1 u2
    go_wp2_with fail
    go_loopw [4, 5] (fun b i wr => ∃ q : Nat, q ≤ l.length ∧ i = .int .i64 (q : Int) ∧ Hid (Own8 w1.heap.size wr b (T ++ Rp.encL (l.take q))) ∧ Hid (wr.heap[w.heap.size]? = some (.cells #[.int .i64 6, .string ⟨([] : List UInt8).toArray⟩, .int .i64 0, .slice a l.length c] 24 (0, 0))) ∧ Hid (Below w.heap.size w wr) ∧ w1.heap.size ≤ wr.heap.size) (fun _ i _ => l.length - (intOf i).toNat)
    case atStart => exact ⟨0, Nat.zero_le _, rfl, Lib.hid (by rw [List.take_zero, Rp.encL, List.append_nil]; exact HO3.out), HP3, HB3, by have := HO3.out; obtain ⟨g, _, _, h1, h2, _⟩ := this; omega⟩
    case round =>
      obtain ⟨q, hq, rfl, HO, HP, HB, hzr⟩ := hrel
      obtain ⟨p0, p1, p2, p3⟩ := cells_four HP.out
      have q0 : (0 : Int) ≤ (q : Int) := by omega
      have wq1 : IntKind.i64.wrap ((q : Int) + 1) = (q : Int) + 1 := IntWalk.i64_in _ (by omega)
      by_cases hlt : q < l.length
      · have hltI : (q : Int) < (l.length : Int) := by omega
        obtain ⟨bb, off, rfl, hbb, hce⟩ := HX.out.resolve_left (by intro h; rw [h] at hlt; simp at hlt)
        obtain ⟨aj, cj, c0, c1, c2, c3, hrep⟩ := hce q hlt
        replace c0 := (HB.out.cell (p := ⟨bb, off + q * 4, none⟩) hbb).trans c0
        replace c1 := (HB.out.cell (p := ⟨bb, off + q * 4 + 1, none⟩) hbb).trans c1
        replace c2 := (HB.out.cell (p := ⟨bb, off + q * 4 + 2, none⟩) hbb).trans c2
        replace c3 := (HB.out.cell (p := ⟨bb, off + q * 4 + 3, none⟩) hbb).trans c3
        have htk := encL_take hlt
        have hle1 := encL_le l (q + 1)
        have hle0 := encL_le l q
        have hlen1 : (Rp.enc l[q]).length ≤ 900000 := by
          have := congrArg List.length htk
          rw [List.length_append] at this
          have := HEL.out
          omega
        have hcl := IH.out l[q] (lev + 1) aj cj wr (HR0.out q hlt) (RepA.later hrep HB.out) (HOK.out _ (List.getElem_mem hlt)) hlen1
        unfold rv at hcl
        have hlow : (T ++ Rp.encL (l.take q)).length ≤ 1000000 := by rw [List.length_append]; have := HEL.out; omega
        obtain ⟨r, hr⟩ : ∃ r, l[q] = r := ⟨_, rfl⟩
        rw [hr] at c0 c1 c2 c3 hcl htk hlen1
        obtain ⟨P, hP⟩ : ∃ P, T ++ Rp.encL (l.take q) = P := ⟨_, rfl⟩
        have hnx : T ++ Rp.encL (l.take (q + 1)) = P ++ Rp.enc r := by rw [htk, ← hP, List.append_assoc]
        rw [hP] at HO hlow
        obtain ⟨F, hF⟩ : ∃ F, Rp.enc r = F := ⟨_, rfl⟩
        rw [hF] at hcl hnx hlen1
        have HNX := Lib.hid hnx
        have HC := Lib.hid hcl
        have hF9 : F.length ≤ 1000000 := by omega
        clear hrep hcl hce hbb hr hP hF htk hle0 hle1 hnx hlen1
        go_wp2_with fail
        refine HC.out.mono ?_
        rintro e w4 ⟨rfl, hb4⟩
        have HO4 := Lib.hid (HO.out.later hb4)
        have HP4 := Lib.hid ((hb4.block _ (by omega)).trans HP.out)
        have HB4 := Lib.hid (HB.out.trans (hb4.mono HB.out.size))
        have hz4 : w1.heap.size ≤ w4.heap.size := Nat.le_trans hzr hb4.size
        clear hb4 c0 c1 c2 c3 p0 p1 p2 p3
        go_wp2_with (at_builtin; refine wpList_append8_str rfl (.tmp 63) (.tmp 69) rfl rfl HO4.out hz4 hlow F rfl hF9 i5 hi5 hi5z hi5s hi5b ?_)
        intro v5 w5 ho5 hb5
        rw [← HNX.out] at ho5
        have HO5 := Lib.hid ho5
        have HP5 := Lib.hid ((hb5.block _ hz1).trans HP4.out)
        have HB5 := Lib.hid (HB4.out.trans (hb5.mono (by omega)))
        have hz5 : w1.heap.size ≤ w5.heap.size := Nat.le_trans hz4 hb5.size
        clear ho5 hb5
        go_wp2_with fail
        go_roundw
        case rel => exact ⟨q + 1, by omega, by go_num, HO5, HP5, HB5, hz5⟩
        case measure => simp [intOf]; omega
      · obtain rfl : q = l.length := by omega
        have hnl : ¬ (l.length : Int) < (l.length : Int) := by omega
        have ho := HO.out
        rw [List.take_length] at ho
        have htx := ho.text
        obtain ⟨P, hP⟩ : ∃ P, T ++ Rp.encL l = P := ⟨_, rfl⟩
        rw [hP] at htx
        have HPP := Lib.hid hP
        clear ho hP HO HX
        go_wp2
        go_ret
        exact ⟨by rw [HPP.out]; rfl, HB.out⟩

set_option maxRecDepth 100000 in
set_option maxHeartbeats 4000000 in
theorem putReply_any (x : Rp.R) (a : Option Addr) (c : Nat) (w : World) (hx : RepA w x (rv x.k x.s x.n a x.l.length c)) (hel : Rp.mayB x = true → (Rp.enc x).length ≤ 900000) :
    Calls Tryd.prog 14 #[rv x.k x.s x.n a x.l.length c] w fun e W => e = .returned (.string ⟨(Rp.putB x).toArray⟩) ∧ Below w.heap.size w W := by
  obtain ⟨w1, hw1⟩ : ∃ w1, w.alloc (.cells #[.int .i64 x.k, .string ⟨x.s.toArray⟩, .int .i64 x.n, .slice a x.l.length c] 24) = w1 := ⟨_, rfl⟩
  have hp1 := World.alloc_heap_new w (.cells #[.int .i64 x.k, .string ⟨x.s.toArray⟩, .int .i64 x.n, .slice a x.l.length c] 24)
  have hb1 : Below w.heap.size w w1 := by rw [← hw1]; exact (Below.refl _ w).alloc (Nat.le_refl _) _
  rw [hw1] at hp1
  have hz1 : w.heap.size < w1.heap.size := (Array.getElem?_eq_some_iff.1 hp1).1
  have hcl := mayReply_any x a c w1 (RepA.later hx hb1)
  have hpt := fun W (hb : Below w1.heap.size w1 W) (hm : Rp.mayB x = true) => put_ref _ x 0 a c W (Nat.le_refl _) (RepA.later (RepA.later hx hb1) hb) hm (hel hm)
  unfold rv at hcl hpt ⊢
  have hput : Rp.putB x = if Rp.mayB x then Rp.enc x else [] := rfl
  rw [hput]
  generalize Rp.mayB x = m at hcl hpt ⊢
  obtain ⟨p0, p1, p2, p3⟩ := cells_four hp1
  have HP1 := Lib.hid hp1
  have HC := Lib.hid hcl
  have HPT := Lib.hid hpt
  have HB := Lib.hid hb1
  have HW := Lib.hid hw1
  clear hcl hb1 hw1 hp1 hx hel hpt hput
  go_enter Tryd.func14, Tryd.ntmps14
  go_upto_region 1 with (fail)
  rw [show w.alloc (.cells #[.int .i64 x.k, .string ⟨x.s.toArray⟩, .int .i64 x.n, .slice a x.l.length c] 24) = w1 from HW.out]
  go_wp2_with fail
  refine HC.out.mono ?_
  rintro e w2 ⟨rfl, hb2⟩
  have HB2 := Lib.hid (HB.out.trans (hb2.mono HB.out.size))
  have HB12 := Lib.hid hb2
  have hp2 := (hb2.block _ hz1).trans HP1.out
  clear hb2 p0 p1 p2 p3
  obtain ⟨p0, p1, p2, p3⟩ := cells_four hp2
  clear hp2
  cases m with
  | false =>
    go_wp2_with fail
    go_ret
    exact ⟨rfl, HB2.out⟩
  | true =>
    go_wp2_with fail
    refine (HPT.out _ HB12.out (by trivial)).mono ?_
    rintro e w3 ⟨rfl, hb3⟩
    have HB3 := Lib.hid (HB2.out.trans (hb3.mono HB2.out.size))
    clear hb3
    go_wp2_with fail
    go_ret
    exact ⟨rfl, HB3.out⟩
end Go.Proofs.YtcjbfgkmpoebgaaDoor
