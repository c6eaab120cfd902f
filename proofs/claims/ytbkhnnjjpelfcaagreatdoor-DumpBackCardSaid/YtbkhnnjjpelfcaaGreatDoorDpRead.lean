/- The contract of read: the one item that may have these words. -/
import Derived.Test.YtbkhnnjjpelfcaaGreatDoorDpFill
import Derived.Test.YtbkhnnjjpelfcaaGreatDoorDpGetPlain
import Derived.Test.YtbkhnnjjpelfcaaGreatDoorTxNumber
namespace Go.Proofs.YtbkhnnjjpelfcaaGreatDoor
open Go.RowKit Go.Shelf
attribute [local go_sem] Oper.semAt_some
set_option linter.unusedVariables false
set_option linter.unusedSimpArgs false

theorem filled_any (k x : Int) (a : Option Addr) (cap : Nat) (ss : List (List UInt8)) (w : World) (hl : Rps w a cap ss) (hn : ss.length ≤ 1000000) :
    Calls Tryz.prog 33 #[itv k [] none 0 0 none 0 0 x, .slice a ss.length cap] w (IOut (Dp.filledS k x ss) w) := by
  refine (callsIn_wide (n := 0)).1 ?_
  unfold Dp.filledS
  by_cases h1 : k = 1
  · subst h1
    rw [if_pos rfl]
    by_cases hs : ss.length = 1
    · rw [if_pos hs]
      obtain ⟨b, off, rfl, hb, hc⟩ := hl.get (by omega)
      obtain ⟨-, -, -, -, -, -, g1, -, -⟩ := hc 0 (by omega)
      rw [show off + 0 * 4 + 1 = off + 1 by omega] at g1
      have := filled_1 x (ss.getD 0 []) b off cap w hb g1 (by have := hl.1; omega)
      rw [hs]
      exact this
    · rw [if_neg hs]
      exact filled_1no x a _ cap w hs
  rw [if_neg h1]
  by_cases h2 : k = 2
  · subst h2
    rw [if_pos rfl]
    by_cases hs : ss.length % 2 = 0
    · rw [if_pos hs]
      exact filled_2 x a cap ss w hs hl hn
    · rw [if_neg hs]
      exact filled_2no x a _ cap w (by omega)
  rw [if_neg h2]
  by_cases h3 : k = 3 ∨ k = 4
  · rw [if_pos h3]
    exact filled_l k x a cap ss w h3 hl hn
  · rw [if_neg h3]
    exact filled_no k x a _ cap w h1 h2 (fun h => h3 (.inl h)) (fun h => h3 (.inr h))

/-- words behind the first two. -/
theorem Rps.drop2 {w : World} {b off cap : Nat} {ss : List (List UInt8)} (h : Rps w (some ⟨b, off, none⟩) cap ss) (h2 : 2 ≤ ss.length) : Rps w (some (if cap = 2 then ⟨b, off, none⟩ else ⟨b, off + 8, none⟩)) (cap - 2) (ss.drop 2) := by
  obtain ⟨h0, h1, hs, h3⟩ := h
  refine ⟨by rw [List.length_drop]; omega, by omega, fun s hm => hs s (List.mem_of_mem_drop hm), ?_⟩
  by_cases hc : cap = 2
  · refine .inl (List.drop_eq_nil_of_le (by omega))
  · right
    obtain ⟨b', off', e, hlt, hcell⟩ := h3.resolve_left (by rintro rfl; simp at h2)
    cases e
    refine ⟨b, off + 8, by rw [if_neg hc], hlt, fun j hj => ?_⟩
    rw [List.length_drop] at hj
    obtain ⟨k, n, a3, l3, c3, g0, g1, g2, g3⟩ := hcell (j + 2) (by omega)
    have e : (ss.drop 2).getD j [] = ss.getD (j + 2) [] := by simp [List.getD, Nat.add_comm]
    rw [e]
    refine ⟨k, n, a3, l3, c3, ?_, ?_, ?_, ?_⟩
    · rw [show off + 8 + j * 4 = off + (j + 2) * 4 by omega]; exact g0
    · rw [show off + 8 + j * 4 + 1 = off + (j + 2) * 4 + 1 by omega]; exact g1
    · rw [show off + 8 + j * 4 + 2 = off + (j + 2) * 4 + 2 by omega]; exact g2
    · rw [show off + 8 + j * 4 + 3 = off + (j + 2) * 4 + 3 by omega]; exact g3

theorem Fds.far {w W : World} {B : Nat} {a : Option Addr} {c : Nat} {fs : List (List UInt8 × List UInt8)} (h : Fds w a c fs) (hk : Keeps (fun j => j ≠ B) w W) (hf : ∀ b off, a = some ⟨b, off, none⟩ → B < b) : Fds W a c fs :=
  h.keep hk.size fun b off e hlt => hk.block b hlt (by have := hf b off e; omega)
theorem Wds.far {w W : World} {B : Nat} {a : Option Addr} {c : Nat} {ws : List (List UInt8)} (h : Wds w a c ws) (hk : Keeps (fun j => j ≠ B) w W) (hf : ∀ b off, a = some ⟨b, off, none⟩ → B < b) : Wds W a c ws :=
  h.keep hk.size fun b off e hlt => hk.block b hlt (by have := hf b off e; omega)

set_option maxRecDepth 100000 in
set_option maxHeartbeats 8000000 in
theorem read_few (a : Option Addr) (n cap : Nat) (w : World) (h : n < 2) : Calls Tryz.prog 15 #[.slice a n cap] w (IOut none w) := by
  have hb := ItBox.new w 0 [] none 0 0 none 0 0 0
  have hB : Below w.heap.size w (w.alloc (itc 0 [] none 0 0 none 0 0 0)) := (Below.refl _ w).alloc (Nat.le_refl _) _
  unfold itc at hb hB
  have HE := Lib.hid (And.intro hb hB)
  have hnI : (n : Int) < 2 := by omega
  clear hb hB
  go_enter Tryz.func15, Tryz.ntmps15
  go_wp2
  exact bodyPost_ret (results_cellt rfl rfl (loadVarI HE.out.1)) rfl ⟨HE.out.2, rfl⟩

set_option maxRecDepth 100000 in
set_option maxHeartbeats 4000000 in
theorem read_many (b off cap : Nat) (ss : List (List UInt8)) (w : World) (h2 : 2 ≤ ss.length) (hl : Rps w (some ⟨b, off, none⟩) cap ss) (hn : ss.length ≤ 1000000) : Calls Tryz.prog 15 #[.slice (some ⟨b, off, none⟩) ss.length cap] w (IOut (Dp.readS ss) w) := by
  have hb := ItBox.new w 0 [] none 0 0 none 0 0 0
  have hB : Below w.heap.size w (w.alloc (itc 0 [] none 0 0 none 0 0 0)) := (Below.refl _ w).alloc (Nat.le_refl _) _
  have hd := (hl.later hB).drop2 h2
  obtain ⟨b', off', e', hlt, hc⟩ := hl.get (by omega)
  cases e'
  obtain ⟨-, -, -, -, -, -, g1, -, -⟩ := hc 0 (by omega)
  obtain ⟨-, -, -, -, -, -, g2, -, -⟩ := hc 1 (by omega)
  rw [show off + 0 * 4 + 1 = off + 1 by omega] at g1
  rw [show off + 1 * 4 + 1 = off + 4 + 1 by omega] at g2
  have d1 := (hB.cell (p := ⟨b, off + 1, none⟩) hlt).trans g1
  have d2 := (hB.cell (p := ⟨b, off + 4 + 1, none⟩) hlt).trans g2
  have hs : ∀ j, (ss.getD j []).length ≤ 1000000 := fun j => by
    by_cases hj : j < ss.length
    · rw [getD_eq hj]; exact hl.2.2.1 _ (List.getElem_mem hj)
    · simp [List.getD, Nat.le_of_not_lt hj]
  have hn0 := fun W => number_any (ss.getD 0 []) W (hs 0)
  have hn1 := fun W => number_any (ss.getD 1 []) W (hs 1)
  have hR : Dp.readS ss = if (Tx.numS (ss.getD 0 [])).2 = true ∧ (Tx.numS (ss.getD 1 [])).2 = true then Dp.filledS (Tx.numS (ss.getD 0 [])).1 (Tx.numS (ss.getD 1 [])).1 (ss.drop 2) else none := by unfold Dp.readS; rw [if_neg (by omega)]
  rw [hR]
  clear hR hs
  have hcc := hl.1
  have hcm := hl.2.1
  have hld : (ss.drop 2).length = ss.length - 2 := List.length_drop
  have hdl : (ss.drop 2).length ≤ 1000000 := by omega
  generalize Tx.numS (ss.getD 0 []) = p0 at *
  generalize Tx.numS (ss.getD 1 []) = p1 at *
  generalize ss.getD 0 [] = x0 at *
  generalize ss.getD 1 [] = x1 at *
  obtain ⟨n0, o0⟩ := p0
  obtain ⟨n1, o1⟩ := p1
  simp only at hn0 hn1 ⊢
  have HN0 := Lib.hid hn0
  have HN1 := Lib.hid hn1
  have hfil := filled_any n0 n1 _ _ _ _ hd hdl
  rw [hld] at hfil
  have HLD := Lib.hid hld
  unfold itc at hb hB hfil d1 d2
  unfold itv at hfil
  have HE := Lib.hid (And.intro hb hB)
  have HFil := Lib.hid hfil
  have hlI : ¬ (ss.length : Int) < 2 := by omega
  have h2I : (2 : Int) ≤ (ss.length : Int) := by omega
  have hclI : (ss.length : Int) ≤ (cap : Int) := by omega
  have hcmI : (cap : Int) ≤ 9223372036854775807 := by omega
  have h0I : (0 : Int) < (ss.length : Int) := by omega
  have h1I : (1 : Int) < (ss.length : Int) := by omega
  obtain ⟨N, hN⟩ : ∃ N, ss.length = N := ⟨_, rfl⟩
  rw [hN] at HFil h2 hcc hlI h2I hclI h0I h1I ⊢
  clear hb hB hn0 hn1 hfil hd hl hc g1 g2 hld hdl hN hn
  cases o0 with
  | false =>
    rw [if_neg (by simp)]
    go_enter Tryz.func15, Tryz.ntmps15
    go_wp2_with fail
    refine (HN0.out _).mono ?_
    rintro e w1 ⟨rfl, rfl⟩
    go_wp2_with fail
    refine (HN1.out _).mono ?_
    rintro e w1 ⟨rfl, rfl⟩
    go_wp2
    exact bodyPost_ret (results_cellt rfl rfl (loadVarI HE.out.1)) rfl ⟨HE.out.2, rfl⟩
  | true =>
  cases o1 with
  | false =>
    rw [if_neg (by simp)]
    go_enter Tryz.func15, Tryz.ntmps15
    go_wp2_with fail
    refine (HN0.out _).mono ?_
    rintro e w1 ⟨rfl, rfl⟩
    go_wp2_with fail
    refine (HN1.out _).mono ?_
    rintro e w1 ⟨rfl, rfl⟩
    go_wp2
    exact bodyPost_ret (results_cellt rfl rfl (loadVarI HE.out.1)) rfl ⟨HE.out.2, rfl⟩
  | true =>
    rw [if_pos ⟨rfl, rfl⟩]
    obtain ⟨o, ho⟩ : ∃ o, Dp.filledS n0 n1 (ss.drop 2) = o := ⟨_, rfl⟩
    rw [ho] at HFil ⊢
    by_cases hc2 : cap = 2
    · subst hc2
      obtain rfl : N = 2 := by omega
      rw [if_pos rfl] at HFil
      simp only [Nat.sub_self] at HFil
      go_enter Tryz.func15, Tryz.ntmps15
      go_wp2_with fail
      refine (HN0.out _).mono ?_
      rintro e w1 ⟨rfl, rfl⟩
      go_wp2_with fail
      refine (HN1.out _).mono ?_
      rintro e w1 ⟨rfl, rfl⟩
      go_wp2_with fail
      refine HFil.out.mono ?_
      have hza : ∀ w2, Below (w.alloc (.cells #[.int .i64 0, .string ⟨#[]⟩, .slice none 0 0, .slice none 0 0, .int .i64 0] 25)).heap.size (w.alloc (.cells #[.int .i64 0, .string ⟨#[]⟩, .slice none 0 0, .slice none 0 0, .int .i64 0] 25)) w2 → ItBox w2 w.heap.size 0 [] none 0 0 none 0 0 0 ∧ Below w.heap.size w w2 := fun w2 hb => ⟨HE.out.1.later hb, HE.out.2.trans (hb.mono HE.out.2.size)⟩
      cases o with
      | none =>
        rintro e w2 ⟨hb, rfl⟩
        obtain ⟨hz, hbw⟩ := hza w2 hb
        obtain ⟨z0, z1, z2, z3, z4⟩ := hz.at
        obtain ⟨f0, f1, f2, f3, f4⟩ := hz.free
        have HZ := Lib.hid (And.intro (hz.store 0 [] none 0 0 none 0 0 0) (below_stIt hbw (Nat.le_refl _) 0 [] none 0 0 none 0 0 0))
        clear hz hbw hb hza HFil
        unfold itv
        go_wp2
        exact bodyPost_ret (results_cellt rfl rfl (loadVarI HZ.out.1)) rfl ⟨HZ.out.2, rfl⟩
      | some i =>
        obtain ⟨k, s, f, l, x⟩ := i
        rintro e w2 ⟨hb, aF, cF, aL, cL, rfl, hF, hL, hn, hfF, hfL⟩
        simp only at hF hL ⊢
        rw [World.size_alloc] at hfF hfL
        obtain ⟨hz, hbw⟩ := hza w2 hb
        obtain ⟨z0, z1, z2, z3, z4⟩ := hz.at
        obtain ⟨f0, f1, f2, f3, f4⟩ := hz.free
        have hk : Keeps (fun j => j ≠ w.heap.size) w2 (stIt w2 w.heap.size k s aF f.length cF aL l.length cL x) := (Keeps.refl _ w2).stIt (.inr fun h => h rfl) k s aF f.length cF aL l.length cL x
        have HZ := Lib.hid (And.intro (hz.store k s aF f.length cF aL l.length cL x) (below_stIt hbw (Nat.le_refl _) k s aF f.length cF aL l.length cL x))
        have HFL := Lib.hid (And.intro (hF.far hk fun b off e => by have := hfF b off e; omega) (hL.far hk fun b off e => by have := hfL b off e; omega))
        have HFF := Lib.hid (And.intro hn (And.intro (fun b off e => by have := hfF b off e; omega : ∀ b off, aF = some ⟨b, off, none⟩ → w.heap.size ≤ b) (fun b off e => by have := hfL b off e; omega : ∀ b off, aL = some ⟨b, off, none⟩ → w.heap.size ≤ b)))
        clear hz hbw hb hza HFil hF hL hn hfF hfL hk
        unfold itv
        go_wp2
        exact bodyPost_ret (results_cellt rfl rfl (loadVarI HZ.out.1)) rfl ⟨HZ.out.2, aF, cF, aL, cL, rfl, HFL.out.1, HFL.out.2, HFF.out.1, HFF.out.2.1, HFF.out.2.2⟩
    · rw [if_neg hc2] at HFil
      go_enter Tryz.func15, Tryz.ntmps15
      go_wp2_with fail
      refine (HN0.out _).mono ?_
      rintro e w1 ⟨rfl, rfl⟩
      go_wp2_with fail
      refine (HN1.out _).mono ?_
      rintro e w1 ⟨rfl, rfl⟩
      go_wp2_with fail
      refine HFil.out.mono ?_
      have hza : ∀ w2, Below (w.alloc (.cells #[.int .i64 0, .string ⟨#[]⟩, .slice none 0 0, .slice none 0 0, .int .i64 0] 25)).heap.size (w.alloc (.cells #[.int .i64 0, .string ⟨#[]⟩, .slice none 0 0, .slice none 0 0, .int .i64 0] 25)) w2 → ItBox w2 w.heap.size 0 [] none 0 0 none 0 0 0 ∧ Below w.heap.size w w2 := fun w2 hb => ⟨HE.out.1.later hb, HE.out.2.trans (hb.mono HE.out.2.size)⟩
      cases o with
      | none =>
        rintro e w2 ⟨hb, rfl⟩
        obtain ⟨hz, hbw⟩ := hza w2 hb
        obtain ⟨z0, z1, z2, z3, z4⟩ := hz.at
        obtain ⟨f0, f1, f2, f3, f4⟩ := hz.free
        have HZ := Lib.hid (And.intro (hz.store 0 [] none 0 0 none 0 0 0) (below_stIt hbw (Nat.le_refl _) 0 [] none 0 0 none 0 0 0))
        clear hz hbw hb hza HFil
        unfold itv
        go_wp2
        exact bodyPost_ret (results_cellt rfl rfl (loadVarI HZ.out.1)) rfl ⟨HZ.out.2, rfl⟩
      | some i =>
        obtain ⟨k, s, f, l, x⟩ := i
        rintro e w2 ⟨hb, aF, cF, aL, cL, rfl, hF, hL, hn, hfF, hfL⟩
        simp only at hF hL ⊢
        rw [World.size_alloc] at hfF hfL
        obtain ⟨hz, hbw⟩ := hza w2 hb
        obtain ⟨z0, z1, z2, z3, z4⟩ := hz.at
        obtain ⟨f0, f1, f2, f3, f4⟩ := hz.free
        have hk : Keeps (fun j => j ≠ w.heap.size) w2 (stIt w2 w.heap.size k s aF f.length cF aL l.length cL x) := (Keeps.refl _ w2).stIt (.inr fun h => h rfl) k s aF f.length cF aL l.length cL x
        have HZ := Lib.hid (And.intro (hz.store k s aF f.length cF aL l.length cL x) (below_stIt hbw (Nat.le_refl _) k s aF f.length cF aL l.length cL x))
        have HFL := Lib.hid (And.intro (hF.far hk fun b off e => by have := hfF b off e; omega) (hL.far hk fun b off e => by have := hfL b off e; omega))
        have HFF := Lib.hid (And.intro hn (And.intro (fun b off e => by have := hfF b off e; omega : ∀ b off, aF = some ⟨b, off, none⟩ → w.heap.size ≤ b) (fun b off e => by have := hfL b off e; omega : ∀ b off, aL = some ⟨b, off, none⟩ → w.heap.size ≤ b)))
        clear hz hbw hb hza HFil hF hL hn hfF hfL hk
        unfold itv
        go_wp2
        exact bodyPost_ret (results_cellt rfl rfl (loadVarI HZ.out.1)) rfl ⟨HZ.out.2, aF, cF, aL, cL, rfl, HFL.out.1, HFL.out.2, HFF.out.1, HFF.out.2.1, HFF.out.2.2⟩

theorem read_any (a : Option Addr) (cap : Nat) (ss : List (List UInt8)) (w : World) (hl : Rps w a cap ss) (hn : ss.length ≤ 1000000) : Calls Tryz.prog 15 #[.slice a ss.length cap] w (IOut (Dp.readS ss) w) := by
  by_cases h2 : ss.length < 2
  · have := read_few a ss.length cap w h2
    rw [show Dp.readS ss = none by unfold Dp.readS; rw [if_pos h2]]
    exact this
  · obtain ⟨b, off, rfl, -⟩ := hl.get (by omega)
    exact read_many b off cap ss w (by omega) hl hn
end Go.Proofs.YtbkhnnjjpelfcaaGreatDoor
