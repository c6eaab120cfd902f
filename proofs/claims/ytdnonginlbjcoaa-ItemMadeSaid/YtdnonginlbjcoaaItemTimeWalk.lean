/- The walk of ItemTime: an item is alive up to its end, and not from then on. -/
import Derived.Test.YtdnonginlbjcoaaItMake
import Derived.Test.YtdnonginlbjcoaaItemAllWalk
namespace Go.Proofs.Ytdnonginlbjcoaa
open Go.RowKit Go.Shelf
set_option linter.unusedVariables false
set_option linter.unusedSimpArgs false

namespace It
theorem may_small {i : I} (h : mayB i = true) : i.f.length ≤ 1000 ∧ i.l.length ≤ 1000 ∧ i.s.length ≤ 300 ∧ (∀ p ∈ i.f, p.1.length ≤ 300 ∧ p.2.length ≤ 300) ∧ ∀ t ∈ i.l, t.length ≤ 300 := by
  unfold mayB at h
  simp only [Bool.and_eq_true, textsS, List.all_cons, List.all_append, fields_all, List.all_eq_true, decide_eq_true_eq] at h
  obtain ⟨⟨_, hf⟩, hs, hF, hL⟩ := h
  have hn : i.f.length ≤ 40 ∧ i.l.length ≤ 40 := by
    unfold fitsB countB at hf
    split at hf
    · simp at hf; simp [hf]
    · split at hf
      · simp at hf; simp [hf] <;> omega
      · split at hf
        · simp at hf; simp [hf] <;> omega
        · split at hf
          · simp at hf; simp [hf] <;> omega
          · cases hf
  exact ⟨by omega, by omega, hs, hF, hL⟩
end It

set_option maxRecDepth 100000 in
set_option maxHeartbeats 8000000 in
theorem itemTime_walk (p : Option Addr) (cap : Nat) (ns : List UInt8) (ex now : Int) (w : World) (h0 : 0 ≤ ex) (h1 : ex ≤ 65535) (h2 : 0 ≤ now) (h3 : now ≤ 65535) (hB : Bytes w p ns) (hl : ns.length ≤ 9223372036854775807) :
    Calls Try.prog 6 #[.slice p ns.length cap, .int .u16 ex, .int .u16 now] w fun e W' => e = .returned (.bool true) ∧ Below w.heap.size w W' := by
  obtain ⟨xi, hxi⟩ : ∃ xi, 1 + ex = xi := ⟨_, rfl⟩
  have hmk := make_any p cap ns 1 w (by decide) (by decide) hB hl
  have hmay := Mk.mk_may ns 1 xi (by omega) (by omega)
  have hal : (decide (xi = 0) || decide (now < xi)) = decide (now ≤ ex) := by rw [Bool.eq_iff_iff]; simp only [Bool.or_eq_true, decide_eq_true_eq]; omega
  have hx0 : ¬ xi = 0 := by omega
  generalize Mk.mk ns 1 = im at hmk hmay
  obtain ⟨ik, s, fs, ws, ie⟩ := im
  have hmay2 : It.mayB ⟨ik, s, fs, ws, xi⟩ = true := hmay
  obtain ⟨l1, l2, l3, l4, l5⟩ := It.may_small hmay2
  have hsame : It.sameB ⟨ik, s, fs, ws, xi⟩ ⟨ik, s, fs, ws, 0⟩ = false := by simp [It.sameB, hx0]
  generalize ns.length = N at *
  have hmk3 : Calls Try.prog 19 #[.slice p N cap, .int .u8 1] w fun e W => ∃ aF cF aL cL, e = .returned (.agg #[.int .i64 ik, .string ⟨s.toArray⟩, .slice aF fs.length cF, .slice aL ws.length cL, .int .i64 ie]) ∧ Fds W aF cF fs ∧ Wds W aL cL ws ∧ Below w.heap.size w W := hmk
  have HMK3 := Lib.hid hmk3
  have HMAY2 := Lib.hid hmay2
  have HAL := Lib.hid hal
  have HSAME := Lib.hid hsame
  have HXI := Lib.hid hxi
  have hsum : 1 + ex = xi := hxi
  clear hmk hmk3 hmay hmay2 hal hsame hxi hB hl hx0
  go_enter Try.func6, Try.ntmps6
  go_wp2_with fail
  refine HMK3.out.mono ?_
  rintro e w1 ⟨aF, cF, aL, cL, rfl, hF, hL, hb⟩
  obtain ⟨W2, hW2⟩ : ∃ W2, (w1.alloc (.cells #[.int .i64 ik, .string ⟨s.toArray⟩, .slice aF fs.length cF, .slice aL ws.length cL, .int .i64 xi] 25)).alloc (.cells #[.int .i64 ik, .string ⟨s.toArray⟩, .slice aF fs.length cF, .slice aL ws.length cL, .int .i64 0] 25) = W2 := ⟨_, rfl⟩
  have hB2 : Below w1.heap.size w1 W2 := by rw [← hW2]; exact ((Below.refl _ w1).alloc (Nat.le_refl _) _).alloc (by simp) _
  have hxa : ItBox W2 w1.heap.size ik s aF fs.length cF aL ws.length cL xi := by
    rw [← hW2]
    exact ItBox.later (ItBox.new w1 ik s aF fs.length cF aL ws.length cL xi) ((Below.refl _ _).alloc (Nat.le_refl _) _)
  have hxb : ItBox W2 (w1.heap.size + 1) ik s aF fs.length cF aL ws.length cL 0 := by
    rw [← hW2]
    have := ItBox.new (w1.alloc (itc ik s aF fs.length cF aL ws.length cL xi)) ik s aF fs.length cF aL ws.length cL 0
    rwa [World.size_alloc] at this
  have hFa := hF.later hB2
  have hLa := hL.later hB2
  obtain ⟨c0, c1, c2, c3, c4⟩ := hxa.at
  obtain ⟨d0, d1, d2, d3, d4⟩ := hxb.at
  have ha1 := fun W (h : Below W2.heap.size W2 W) => alive_any ik s aF fs.length cF aL ws.length cL xi now W
  have ha2 := fun W (h : Below W2.heap.size W2 W) => alive_any ik s aF fs.length cF aL ws.length cL 0 now W
  have hm := fun W (h : Below W2.heap.size W2 W) => may_any ik xi s aF cF fs aL cL ws W (hFa.later h) (hLa.later h) (by omega) (by omega)
  have hs := fun W (h : Below W2.heap.size W2 W) => same_any ik ik xi 0 s s aF aF cF cF fs fs aL aL cL cL ws ws W (hFa.later h) (hFa.later h) (hLa.later h) (hLa.later h)
  have hr := fun W (h : Below W2.heap.size W2 W) => refSame_any ik ik xi 0 s s aF aF cF cF fs fs aL aL cL cL ws ws W (hFa.later h) (hFa.later h) (hLa.later h) (hLa.later h)
  rw [HSAME.out] at hs hr
  rw [HMAY2.out] at hm
  rw [HAL.out] at ha1
  rw [show (decide ((0 : Int) = 0) || decide (now < 0)) = true from rfl] at ha2
  unfold itv at ha1 ha2 hm hs hr
  have HHA1 := Lib.hid ha1
  have HHA2 := Lib.hid ha2
  have HHM := Lib.hid hm
  have HHS := Lib.hid hs
  have HHR := Lib.hid hr
  have HW2 := Lib.hid hW2
  have HB2 := Lib.hid (hb.trans (hB2.mono hb.size))
  have HS : W2.drew.cell? ⟨w1.heap.size, 0, none⟩ = some (.int .i64 ik) ∧ W2.drew.cell? ⟨w1.heap.size, 1, none⟩ = some (.string ⟨s.toArray⟩) ∧ W2.drew.cell? ⟨w1.heap.size, 2, none⟩ = some (.slice aF fs.length cF) ∧ W2.drew.cell? ⟨w1.heap.size, 3, none⟩ = some (.slice aL ws.length cL) ∧ W2.drew.cell? ⟨w1.heap.size, 4, none⟩ = some (.int .i64 xi) ∧ W2.drew.cell? ⟨w1.heap.size + 1, 0, none⟩ = some (.int .i64 ik) ∧ W2.drew.cell? ⟨w1.heap.size + 1, 1, none⟩ = some (.string ⟨s.toArray⟩) ∧ W2.drew.cell? ⟨w1.heap.size + 1, 2, none⟩ = some (.slice aF fs.length cF) ∧ W2.drew.cell? ⟨w1.heap.size + 1, 3, none⟩ = some (.slice aL ws.length cL) ∧ W2.drew.cell? ⟨w1.heap.size + 1, 4, none⟩ = some (.int .i64 0) ∧ Below W2.heap.size W2 W2.drew :=
    ⟨(World.cell?_drew _ _).trans c0, (World.cell?_drew _ _).trans c1, (World.cell?_drew _ _).trans c2, (World.cell?_drew _ _).trans c3, (World.cell?_drew _ _).trans c4, (World.cell?_drew _ _).trans d0, (World.cell?_drew _ _).trans d1, (World.cell?_drew _ _).trans d2, (World.cell?_drew _ _).trans d3, (World.cell?_drew _ _).trans d4, (Below.refl _ _).drew⟩
  clear c0 c1 c2 c3 c4 d0 d1 d2 d3 d4 ha1 ha2 hm hs hr hW2 hb hB2 hxa hxb hFa hLa hF hL l1 l2 l3 l4 l5
  by_cases hne : now ≤ ex
  all_goals
    go_upto_region 5 with (fail)
    rw [show (w1.alloc (.cells #[.int .i64 ik, .string ⟨s.toArray⟩, .slice aF fs.length cF, .slice aL ws.length cL, .int .i64 xi] 25)).alloc (.cells #[.int .i64 ik, .string ⟨s.toArray⟩, .slice aF fs.length cF, .slice aL ws.length cL, .int .i64 0] 25) = W2 from HW2.out]
    clear HW2
    have hI1 : IntKind.i64.wrap now = now := IntWalk.i64_in _ (by omega)
    have hI2 : IntKind.i64.wrap ex = ex := IntWalk.i64_in _ (by omega)
    go_region_held3 (fun W' => W'.cell? ⟨w1.heap.size, 0, none⟩ = some (.int .i64 ik) ∧ W'.cell? ⟨w1.heap.size, 1, none⟩ = some (.string ⟨s.toArray⟩) ∧ W'.cell? ⟨w1.heap.size, 2, none⟩ = some (.slice aF fs.length cF) ∧ W'.cell? ⟨w1.heap.size, 3, none⟩ = some (.slice aL ws.length cL) ∧ W'.cell? ⟨w1.heap.size, 4, none⟩ = some (.int .i64 xi) ∧ W'.cell? ⟨w1.heap.size + 1, 0, none⟩ = some (.int .i64 ik) ∧ W'.cell? ⟨w1.heap.size + 1, 1, none⟩ = some (.string ⟨s.toArray⟩) ∧ W'.cell? ⟨w1.heap.size + 1, 2, none⟩ = some (.slice aF fs.length cF) ∧ W'.cell? ⟨w1.heap.size + 1, 3, none⟩ = some (.slice aL ws.length cL) ∧ W'.cell? ⟨w1.heap.size + 1, 4, none⟩ = some (.int .i64 0) ∧ Below W2.heap.size W2 W')
      (with_reducible exact HS)
      (first
        | (go_at_call 12; (with_reducible refine (HHA1.out _ HS.2.2.2.2.2.2.2.2.2.2).mono ?_); rintro e w1 ⟨rfl, hb⟩; replace HS := allS_next HS hb; clear hb)
        | (go_at_call 12; (with_reducible refine (HHA2.out _ HS.2.2.2.2.2.2.2.2.2.2).mono ?_); rintro e w1 ⟨rfl, hb⟩; replace HS := allS_next HS hb; clear hb)
        | (go_at_call 10; (with_reducible refine (HHM.out _ HS.2.2.2.2.2.2.2.2.2.2).mono ?_); rintro e w1 ⟨rfl, hb⟩; replace HS := allS_next HS hb; clear hb)
        | (go_at_call 16; (with_reducible refine (HHS.out _ HS.2.2.2.2.2.2.2.2.2.2).mono ?_); rintro e w1 ⟨rfl, hb⟩; replace HS := allS_next HS hb; clear hb)
        | (go_at_call 17; (with_reducible refine (HHR.out _ HS.2.2.2.2.2.2.2.2.2.2).mono ?_); rintro e w1 ⟨rfl, hb⟩; replace HS := allS_next HS hb; clear hb)
        | (go_at_call 9; (with_reducible refine (awake_any _).mono ?_); rintro e w1 ⟨rfl, hb⟩; replace HS := allS_next HS hb; clear hb))
    go_wp2
    go_ret
    exact ⟨rfl, HB2.out.trans (HS.2.2.2.2.2.2.2.2.2.2.mono HB2.out.size)⟩
end Go.Proofs.Ytdnonginlbjcoaa
