/- The contract of the statements' own 'awake'. -/
import Derived.Test.YtdnonginlbjcoaaItCopy
import Derived.Test.YtdnonginlbjcoaaItMay
import Derived.Test.YtdnonginlbjcoaaItSame
import Derived.Deep.RegionHeld3
namespace Go.Proofs.Ytdnonginlbjcoaa
open Go.RowKit Go.Shelf
set_option linter.unusedVariables false

/-- what is known of the item in its box stays. -/
theorem awS_next {W A B : World} {p0 p1 p2 p3 p4 : Addr} {v0 v1 v2 v3 v4 : Value} (h : A.cell? p0 = some v0 ∧ A.cell? p1 = some v1 ∧ A.cell? p2 = some v2 ∧ A.cell? p3 = some v3 ∧ A.cell? p4 = some v4 ∧ Below W.heap.size W A) (hb : Below A.heap.size A B) :
    B.cell? p0 = some v0 ∧ B.cell? p1 = some v1 ∧ B.cell? p2 = some v2 ∧ B.cell? p3 = some v3 ∧ B.cell? p4 = some v4 ∧ Below W.heap.size W B := by
  obtain ⟨h0, h1, h2, h3, h4, h5⟩ := h
  exact ⟨(hb.cell (World.block_lt_of_cell? A p0 h0)).trans h0, (hb.cell (World.block_lt_of_cell? A p1 h1)).trans h1, (hb.cell (World.block_lt_of_cell? A p2 h2)).trans h2, (hb.cell (World.block_lt_of_cell? A p3 h3)).trans h3, (hb.cell (World.block_lt_of_cell? A p4 h4)).trans h4, h5.trans (hb.mono h5.size)⟩

/-- a copy as an item. -/
theorem CopyOut.item {k x : Int} {s : List UInt8} {fs : List (List UInt8 × List UInt8)} {ws : List (List UInt8)} {w W : World} {e : Ending} (h : CopyOut k x s fs ws w e W) (hfs : ∀ p ∈ fs, p.1.length ≤ 9223372036854775807 ∧ p.2.length ≤ 9223372036854775807) (hws : ∀ t ∈ ws, t.length ≤ 9223372036854775807) :
    ∃ aF cF aL cL, e = .returned (itv k s aF fs.length cF aL ws.length cL x) ∧ Fds W aF cF fs ∧ Wds W aL cL ws ∧ Below w.heap.size w W := by
  obtain ⟨aF, cF, aL, cL, he, hF, hL, -, hb⟩ := h
  obtain ⟨a1, c1, e1, h1, -⟩ := fds_of_row hF hfs
  obtain ⟨a2, c2, e2, h2, -⟩ := wds_of_row hL hws
  injection e1 with e1 _ e3
  injection e2 with e2 _ e4
  subst e1 e2 e3 e4
  exact ⟨_, _, _, _, he, h1, h2, hb⟩

set_option maxRecDepth 100000 in
set_option maxHeartbeats 8000000 in
theorem awake_any (w : World) : Calls Try.prog 9 #[] w fun e W' => e = .returned (.bool true) ∧ Below w.heap.size w W' := by
  obtain ⟨W1, hW1⟩ : ∃ W1, (w.alloc (.cells #[.string ⟨#[97]⟩] 9)).alloc (.cells #[.int .i64 3, .string ⟨#[]⟩, .slice none 0 0, .slice (some ⟨w.heap.size, 0, none⟩) 1 1, .int .i64 0] 25) = W1 := ⟨_, rfl⟩
  have hB1 : Below w.heap.size w W1 := by rw [← hW1]; exact ((Below.refl _ w).alloc (Nat.le_refl _) _).alloc (by simp) _
  have hwd : Wds W1 (some ⟨w.heap.size, 0, none⟩) 1 [[97]] := by rw [← hW1]; exact (wds_new w [[97]] (by decide) (by decide)).later ((Below.refl _ _).alloc (Nat.le_refl _) _)
  have hbox : ItBox W1 (w.heap.size + 1) 3 [] none 0 0 (some ⟨w.heap.size, 0, none⟩) 1 1 0 := by
    rw [← hW1]
    have := ItBox.new (w.alloc (.cells #[.string ⟨#[97]⟩] 9)) 3 [] none 0 0 (some ⟨w.heap.size, 0, none⟩) 1 1 0
    rwa [World.size_alloc] at this
  obtain ⟨c0, c1, c2, c3, c4⟩ := hbox.at
  have HS : W1.drew.cell? ⟨w.heap.size + 1, 0, none⟩ = some (.int .i64 3) ∧ W1.drew.cell? ⟨w.heap.size + 1, 1, none⟩ = some (.string ⟨#[]⟩) ∧ W1.drew.cell? ⟨w.heap.size + 1, 2, none⟩ = some (.slice none 0 0) ∧ W1.drew.cell? ⟨w.heap.size + 1, 3, none⟩ = some (.slice (some ⟨w.heap.size, 0, none⟩) 1 1) ∧ W1.drew.cell? ⟨w.heap.size + 1, 4, none⟩ = some (.int .i64 0) ∧ Below W1.heap.size W1 W1.drew :=
    ⟨(World.cell?_drew _ _).trans c0, (World.cell?_drew _ _).trans c1, (World.cell?_drew _ _).trans c2, (World.cell?_drew _ _).trans c3, (World.cell?_drew _ _).trans c4, (Below.refl _ _).drew⟩
  have ht0 := fun W => type_any 0 [] none 0 0 none 0 0 0 W
  have ht1 := fun W => type_any 3 [] none 0 0 (some ⟨w.heap.size, 0, none⟩) 1 1 0 W
  have hm0 := fun W => may_any 0 0 [] none 0 [] none 0 [] W (fds_nil W) (wds_nil W) (by decide) (by decide)
  have hm1 := fun W (h : Below W1.heap.size W1 W) => may_any 3 0 [] none 0 [] (some ⟨w.heap.size, 0, none⟩) 1 [[97]] W (fds_nil W) (hwd.later h) (by decide) (by decide)
  have hcp := fun W (h : Below W1.heap.size W1 W) => (copy_any 3 0 [] none 0 [] (some ⟨w.heap.size, 0, none⟩) 1 [[97]] W (fds_nil W) (hwd.later h) (by decide) (by decide) (by decide) (by decide) (by decide)).mono fun e W' hc => hc.item (by decide) (by decide)
  have hsm := fun W (h : Below W1.heap.size W1 W) (aF : Option Addr) (cF : Nat) (aL : Option Addr) (cL : Nat) (hF : Fds W aF cF []) (hL : Wds W aL cL [[97]]) => same_any 3 3 0 0 [] [] aF none cF 0 [] [] aL (some ⟨w.heap.size, 0, none⟩) cL 1 [[97]] [[97]] W hF (fds_nil W) hL (hwd.later h)
  rw [show It.typeS 0 = [110, 111, 110, 101] by decide] at ht0
  rw [show It.typeS 3 = [108, 105, 115, 116] by decide] at ht1
  rw [show It.mayB ⟨0, [], [], [], 0⟩ = false by decide] at hm0
  rw [show It.mayB ⟨3, [], [], [[97]], 0⟩ = true by decide] at hm1
  rw [It.same_self] at hsm
  unfold itv at ht0 ht1 hm0 hm1 hcp hsm
  simp only [List.length_nil, List.length_cons, Nat.zero_add] at hm0 hm1 hcp hsm
  have HT0 := Lib.hid ht0
  have HT1 := Lib.hid ht1
  have HM0 := Lib.hid hm0
  have HM1 := Lib.hid hm1
  have HCP := Lib.hid hcp
  have HSM := Lib.hid hsm
  have HB1 := Lib.hid hB1
  have HWD := Lib.hid hwd
  have HW1 := Lib.hid hW1
  clear ht0 ht1 hm0 hm1 hcp hsm hB1 hwd hbox c0 c1 c2 c3 c4 hW1
  go_enter Try.func9, Try.ntmps9
  go_upto_region 2 with (fail)
  rw [show (w.alloc (.cells #[.string ⟨#[97]⟩] 9)).alloc (.cells #[.int .i64 3, .string ⟨#[]⟩, .slice none 0 0, .slice (some ⟨w.heap.size, 0, none⟩) 1 1, .int .i64 0] 25) = W1 from HW1.out]
  clear HW1
  go_region_held3 (fun W' => W'.cell? ⟨w.heap.size + 1, 0, none⟩ = some (.int .i64 3) ∧ W'.cell? ⟨w.heap.size + 1, 1, none⟩ = some (.string ⟨#[]⟩) ∧ W'.cell? ⟨w.heap.size + 1, 2, none⟩ = some (.slice none 0 0) ∧ W'.cell? ⟨w.heap.size + 1, 3, none⟩ = some (.slice (some ⟨w.heap.size, 0, none⟩) 1 1) ∧ W'.cell? ⟨w.heap.size + 1, 4, none⟩ = some (.int .i64 0) ∧ Below W1.heap.size W1 W')
    (with_reducible exact HS)
    (first
      | (go_at_call 14; (with_reducible refine (HT0.out _).mono ?_); rintro e w1 ⟨rfl, hb⟩; replace HS := awS_next HS hb; clear hb)
      | (go_at_call 14; (with_reducible refine (HT1.out _).mono ?_); rintro e w1 ⟨rfl, hb⟩; replace HS := awS_next HS hb; clear hb)
      | (go_at_call 10; (with_reducible refine (HM0.out _).mono ?_); rintro e w1 ⟨rfl, hb⟩; replace HS := awS_next HS hb; clear hb)
      | (go_at_call 10; (with_reducible refine (HM1.out _ HS.2.2.2.2.2).mono ?_); rintro e w1 ⟨rfl, hb⟩; replace HS := awS_next HS hb; clear hb)
      | (go_at_call 18; (with_reducible refine (HCP.out _ HS.2.2.2.2.2).mono ?_); rintro e w1 ⟨aF, cF, aL, cL, rfl, hF, hL, hb⟩; have HFC := Lib.hid hF; have HLC := Lib.hid hL; replace HS := awS_next HS hb; clear hb hF hL)
      | (go_at_call 16; (with_reducible refine (HSM.out _ HS.2.2.2.2.2 _ _ _ _ HFC.out HLC.out).mono ?_); rintro e w1 ⟨rfl, hb⟩; replace HS := awS_next HS hb; clear hb))
  go_wp2
  go_ret
  exact ⟨rfl, HB1.out.trans (HS.2.2.2.2.2.mono HB1.out.size)⟩
end Go.Proofs.Ytdnonginlbjcoaa
