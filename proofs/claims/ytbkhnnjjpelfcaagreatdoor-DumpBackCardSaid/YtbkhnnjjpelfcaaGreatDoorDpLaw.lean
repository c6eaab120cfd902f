/- The contract of the statements' own awake; cells that stay. -/
import Derived.Test.YtbkhnnjjpelfcaaGreatDoorDpGet
namespace Go.Proofs.YtbkhnnjjpelfcaaGreatDoor
open Go.RowKit Go.Shelf
attribute [local go_sem] Oper.semAt_some
set_option linter.unusedVariables false
set_option linter.unusedSimpArgs false

theorem same_eq {i j : It.I} : It.sameB i j = true ↔ i = j := by
  obtain ⟨k, s, f, l, x⟩ := i
  obtain ⟨k', s', f', l', x'⟩ := j
  simp only [It.sameB, Bool.and_eq_true, decide_eq_true_eq, It.I.mk.injEq]
  constructor
  · rintro ⟨⟨⟨⟨h1, h2⟩, h3⟩, h4⟩, h5⟩; exact ⟨h1, h2, h3, h4, h5⟩
  · rintro ⟨h1, h2, h3, h4, h5⟩; exact ⟨⟨⟨⟨h1, h2⟩, h3⟩, h4⟩, h5⟩
theorem same_iff {i j : It.I} (hi : It.mayB i = true) : It.sameB i j = (Dp.putS i == Dp.putS j) := by
  rw [Bool.eq_iff_iff, same_eq, beq_iff_eq]
  exact ⟨fun h => by rw [h], fun h => Dp.put_inj hi h⟩
theorem may_lens {i : It.I} (h : It.mayB i = true) : i.f.length ≤ 40 ∧ i.l.length ≤ 40 := by
  obtain ⟨-, -, -, c⟩ := Dp.may_cases h
  rcases c with ⟨-, h1, h2⟩ | ⟨-, -, -, h1, -, h2⟩ | ⟨-, -, h1, -, h2⟩
  · rw [h1, h2]; simp
  · rw [h2]; exact ⟨h1, by simp⟩
  · rw [h1]; exact ⟨by simp, h2⟩
theorem put_zero : Dp.putS ⟨0, [], [], [], 0⟩ = [] := rfl
theorem aw_may : It.mayB ⟨1, [120], [], [], 3⟩ = true := by decide
theorem put_len {i : It.I} : (Dp.putS i).length ≤ 30002 := by
  unfold Dp.putS
  split
  · rename_i h; exact Dp.dump_len h
  · simp
theorem get_putS {i : It.I} (h : It.mayB i = true) : Dp.getS (Dp.putS i) = some i := by unfold Dp.putS; rw [if_pos h]; exact Dp.get_dump h

set_option maxRecDepth 100000 in
set_option maxHeartbeats 2000000 in
theorem awake_any (w : World) (henv : Env w) : Calls Tryz.prog 7 #[] w fun e W' => e = .returned (.bool true) ∧ Below w.heap.size w W' := by
  have hp0 := fun W (h : Env W) => dput_any 0 0 [] none 0 [] none 0 [] W (fds_nil W) (wds_nil W) (by decide) (by decide) h
  have hp1 := dput_any 1 3 [120] none 0 [] none 0 [] w (fds_nil w) (wds_nil w) (by decide) (by decide) henv
  rw [put_zero] at hp0
  have hg := fun W (h : Env W) => dget_any (Dp.putS ⟨1, [120], [], [], 3⟩) W (by have := put_len (i := ⟨1, [120], [], [], 3⟩); omega) h
  rw [get_putS aw_may] at hg
  obtain ⟨P, hP⟩ : ∃ P, Dp.putS ⟨1, [120], [], [], 3⟩ = P := ⟨_, rfl⟩
  rw [hP] at hp1 hg
  clear hP
  unfold itv at hp0 hp1
  simp only [List.length_nil] at hp0 hp1
  have HP0 := Lib.hid hp0
  have HP1 := Lib.hid hp1
  have HG := Lib.hid hg
  have HE := Lib.hid henv
  clear hp0 hp1 hg henv
  go_enter Tryz.func7, Tryz.ntmps7
  go_wp2_with fail
  refine HP1.out.mono ?_
  rintro e w1 ⟨rfl, hb⟩
  have HB1 := Lib.hid hb
  clear hb HP1
  go_wp2_with fail
  refine (HG.out w1 (HE.out.later HB1.out)).mono ?_
  rintro e w2 ⟨hb, aF, cF, aL, cL, rfl, -, -, -⟩
  have hB2 := HB1.out.trans (hb.mono HB1.out.size)
  have hb3 := hB2.alloc hB2.size (.cells #[.int .i64 1, .string ⟨#[120]⟩, .slice aF 0 cF, .slice aL 0 cL, .int .i64 3] 25)
  have hx3 : ItBox (w2.alloc (.cells #[.int .i64 1, .string ⟨#[120]⟩, .slice aF 0 cF, .slice aL 0 cL, .int .i64 3] 25)) w2.heap.size 1 [120] aF 0 cF aL 0 cL 3 := ItBox.new w2 1 [120] aF 0 cF aL 0 cL 3
  have HX3 := Lib.hid hx3
  have HB3 := Lib.hid hb3
  clear hb hB2 hb3 hx3 HG HB1
  unfold itv
  go_wp2_with fail
  refine (HP0.out _ (HE.out.later HB3.out)).mono ?_
  rintro e w4 ⟨rfl, hb⟩
  obtain ⟨c0, c1, c2, c3, c4⟩ := (HX3.out.later hb).at
  have HB4 := Lib.hid (HB3.out.trans (hb.mono HB3.out.size))
  clear hb HX3 HB3 HP0
  go_wp2
  go_ret
  exact ⟨rfl, HB4.out⟩

theorem dp_cell {A B : World} {p : Addr} {v : Value} (h : A.cell? p = some v) (hb : Below A.heap.size A B) : B.cell? p = some v := (hb.cell (World.block_lt_of_cell? A p h)).trans h
theorem tenS_next {W A B : World} {p0 p1 p2 p3 p4 p5 p6 p7 p8 p9 : Addr} {v0 v1 v2 v3 v4 v5 v6 v7 v8 v9 : Value} (h : A.cell? p0 = some v0 ∧ A.cell? p1 = some v1 ∧ A.cell? p2 = some v2 ∧ A.cell? p3 = some v3 ∧ A.cell? p4 = some v4 ∧ A.cell? p5 = some v5 ∧ A.cell? p6 = some v6 ∧ A.cell? p7 = some v7 ∧ A.cell? p8 = some v8 ∧ A.cell? p9 = some v9 ∧ Below W.heap.size W A) (hb : Below A.heap.size A B) :
    B.cell? p0 = some v0 ∧ B.cell? p1 = some v1 ∧ B.cell? p2 = some v2 ∧ B.cell? p3 = some v3 ∧ B.cell? p4 = some v4 ∧ B.cell? p5 = some v5 ∧ B.cell? p6 = some v6 ∧ B.cell? p7 = some v7 ∧ B.cell? p8 = some v8 ∧ B.cell? p9 = some v9 ∧ Below W.heap.size W B := by
  obtain ⟨h0, h1, h2, h3, h4, h5, h6, h7, h8, h9, h10⟩ := h
  exact ⟨dp_cell h0 hb, dp_cell h1 hb, dp_cell h2 hb, dp_cell h3 hb, dp_cell h4 hb, dp_cell h5 hb, dp_cell h6 hb, dp_cell h7 hb, dp_cell h8 hb, dp_cell h9 hb, h10.trans (hb.mono h10.size)⟩
end Go.Proofs.YtbkhnnjjpelfcaaGreatDoor
