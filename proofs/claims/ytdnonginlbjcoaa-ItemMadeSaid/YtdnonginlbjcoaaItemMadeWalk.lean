/- The walk of ItemMade: items by numbers are valid; writing into a copy changes nothing else. -/
import Derived.Test.YtdnonginlbjcoaaItMake
import Derived.Test.YtdnonginlbjcoaaItemTimeWalk
import Derived.Test.YtdnonginlbjcoaaItTurn
namespace Go.Proofs.Ytdnonginlbjcoaa
open Go.RowKit Go.Shelf
set_option linter.unusedVariables false
set_option linter.unusedSimpArgs false

namespace Mk
theorem mkK_exp (K e : Int) (t : List UInt8) : (mkK K e t).exp = e := by
  unfold mkK
  split
  · rfl
  · split
    · rfl
    · split <;> rfl
theorem eOf_bd (x : Int) (h0 : 0 ≤ x) (h1 : x ≤ 255) : 0 ≤ eOf x ∧ eOf x ≤ 255 := by unfold eOf; split <;> omega
theorem mk_exp (ns : List UInt8) (x : Int) (h0 : 0 ≤ x) (h1 : x ≤ 255) : 0 ≤ (mk ns x).exp ∧ (mk ns x).exp ≤ 255 := by
  cases ns with
  | nil => exact ⟨Int.le_refl 0, show (0 : Int) ≤ 255 by decide⟩
  | cons n r =>
    by_cases hr : r = [] ∧ n.toNat % 4 ≠ 0
    · rw [show mk (n :: r) x = ⟨1, Dig.dec (n.toNat : Int), [], [], eOf x⟩ from if_pos hr]
      exact eOf_bd x h0 h1
    · rw [show mk (n :: r) x = mkK (1 + ((n.toNat % 4 : Nat) : Int)) (eOf x) (r.take 8) from if_neg hr, mkK_exp]
      exact eOf_bd x h0 h1
end Mk

theorem madeS_next {W A B : World} {p0 p1 p2 p3 p4 p5 p6 p7 p8 p9 p10 p11 p12 p13 p14 : Addr} {v0 v1 v2 v3 v4 v5 v6 v7 v8 v9 v10 v11 v12 v13 v14 : Value} (h : A.cell? p0 = some v0 ∧ A.cell? p1 = some v1 ∧ A.cell? p2 = some v2 ∧ A.cell? p3 = some v3 ∧ A.cell? p4 = some v4 ∧ A.cell? p5 = some v5 ∧ A.cell? p6 = some v6 ∧ A.cell? p7 = some v7 ∧ A.cell? p8 = some v8 ∧ A.cell? p9 = some v9 ∧ A.cell? p10 = some v10 ∧ A.cell? p11 = some v11 ∧ A.cell? p12 = some v12 ∧ A.cell? p13 = some v13 ∧ A.cell? p14 = some v14 ∧ Below W.heap.size W A) (hb : Below A.heap.size A B) :
    B.cell? p0 = some v0 ∧ B.cell? p1 = some v1 ∧ B.cell? p2 = some v2 ∧ B.cell? p3 = some v3 ∧ B.cell? p4 = some v4 ∧ B.cell? p5 = some v5 ∧ B.cell? p6 = some v6 ∧ B.cell? p7 = some v7 ∧ B.cell? p8 = some v8 ∧ B.cell? p9 = some v9 ∧ B.cell? p10 = some v10 ∧ B.cell? p11 = some v11 ∧ B.cell? p12 = some v12 ∧ B.cell? p13 = some v13 ∧ B.cell? p14 = some v14 ∧ Below W.heap.size W B := by
  obtain ⟨h0, h1, h2, h3, h4, h5, h6, h7, h8, h9, h10, h11, h12, h13, h14, h15⟩ := h
  exact ⟨cell_next h0 hb, cell_next h1 hb, cell_next h2 hb, cell_next h3 hb, cell_next h4 hb, cell_next h5 hb, cell_next h6 hb, cell_next h7 hb, cell_next h8 hb, cell_next h9 hb, cell_next h10 hb, cell_next h11 hb, cell_next h12 hb, cell_next h13 hb, cell_next h14 hb, h15.trans (hb.mono h15.size)⟩

/-- what the loops over a copy's rows keep. -/
def TurnW (W : World) (aL : Option Addr) (cL n : Nat) (wr : World) : Prop :=
  ∃ l : List (List UInt8), l.length = n ∧ Wds wr aL cL l ∧ (0 < n → ∀ g, aL = some ⟨g, 0, none⟩ → ∀ j, wr.frozen? ⟨g, j, none⟩ = false) ∧ Keeps (fun j => ∀ o, aL ≠ some ⟨j, o, none⟩) W wr
def TurnF (W : World) (aF : Option Addr) (cF n : Nat) (wr : World) : Prop :=
  ∃ f : List (List UInt8 × List UInt8), f.length = n ∧ Fds wr aF cF f ∧ (0 < n → ∀ g, aF = some ⟨g, 0, none⟩ → ∀ j, wr.frozen? ⟨g, j, none⟩ = false) ∧ Keeps (fun j => ∀ o, aF ≠ some ⟨j, o, none⟩) W wr
theorem TurnW.step {W wr : World} {g cL n q : Nat} {x : List UInt8} (h : TurnW W (some ⟨g, 0, none⟩) cL n wr) (hq : q < n) (hx : x.length ≤ 9223372036854775807) : TurnW W (some ⟨g, 0, none⟩) cL n (wr.setCell ⟨g, q, none⟩ (.string ⟨x.toArray⟩)) := by
  obtain ⟨l, h1, h2, h4, h3⟩ := h
  exact ⟨l.set q x, by rw [List.length_set]; exact h1, h2.turn q x (by omega) hx, fun hn g' e j => by rw [World.frozen?_setCell]; exact h4 hn g' e j, h3.setCell (p := ⟨g, q, none⟩) (.inr fun h => h 0 rfl) _⟩
theorem TurnF.step {W wr : World} {g cF n q : Nat} {x : List UInt8} (h : TurnF W (some ⟨g, 0, none⟩) cF n wr) (hq : q < n) (hx : x.length ≤ 9223372036854775807) : TurnF W (some ⟨g, 0, none⟩) cF n (wr.setCell ⟨g, q * 2 + 1, none⟩ (.string ⟨x.toArray⟩)) := by
  obtain ⟨l, h1, h2, h4, h3⟩ := h
  exact ⟨_, by rw [List.length_set]; exact h1, h2.turn q x (by omega) hx, fun hn g' e j => by rw [World.frozen?_setCell]; exact h4 hn g' e j, h3.setCell (p := ⟨g, q * 2 + 1, none⟩) (.inr fun h => h 0 rfl) _⟩

theorem owns_some {w : World} {base : Nat} {e : TypeId} {sz m c n : Nat} {xs : List Value} {a : Option Addr} (h : w.ownsRow base e sz (.slice a m c) n xs) : ∀ g o, a = some ⟨g, o, none⟩ → base ≤ g ∧ g < w.heap.size ∧ (Value.slice a m c).ownBlock = some g := by
  obtain ⟨_, hc⟩ := h
  rcases hc with ⟨h1, _⟩ | ⟨g', cap, cur, h1, hb, hg, _⟩
  · injection h1 with h1
    intro g o e
    rw [h1] at e
    cases e
  · injection h1 with h1
    intro g o e
    rw [h1] at e
    injection e with e
    injection e with e
    subst e h1
    exact ⟨hb, (Array.getElem?_eq_some_iff.1 hg).1, rfl⟩

set_option maxRecDepth 100000 in
set_option maxHeartbeats 16000000 in
theorem itemMade_walk (p : Option Addr) (cap : Nat) (ns : List UInt8) (p2 : Option Addr) (cap2 : Nat) (ms : List UInt8) (ex now : Int) (w : World) (h0 : 0 ≤ ex) (h1 : ex ≤ 255) (h2 : -32768 ≤ now) (h3 : now ≤ 32767) (hB : Bytes w p ns) (hl : ns.length ≤ 9223372036854775807) (hB2 : Bytes w p2 ms) (hl2 : ms.length ≤ 9223372036854775807) :
    Calls Try.prog 4 #[.slice p ns.length cap, .slice p2 ms.length cap2, .int .u8 ex, .int .i16 now] w fun e W' => e = .returned (.bool true) ∧ Below w.heap.size w W' := by
  have hmk := fun W (h : Below w.heap.size w W) => make_any p cap ns ex W h0 h1 (hB.later h) hl
  have hmk2 := fun W (h : Below w.heap.size w W) => make_any p2 cap2 ms ex W h0 h1 (hB2.later h) hl2
  have hx := Mk.mk_exp ns ex h0 h1
  have hma := Mk.mk_may ns ex (Mk.mk ns ex).exp hx.1 (by omega)
  have hxb := Mk.mk_exp ms ex h0 h1
  have hmb := Mk.mk_may ms ex (Mk.mk ms ex).exp hxb.1 (by omega)
  generalize Mk.mk ns ex = im at hmk hma hx
  generalize Mk.mk ms ex = in_ at hmk2 hmb hxb
  obtain ⟨ka, sa, fa, wa, xa⟩ := im
  obtain ⟨kb, sb, fb, wb, xb⟩ := in_
  have hmay2 : It.mayB ⟨ka, sa, fa, wa, xa⟩ = true := hma
  have hmayb : It.mayB ⟨kb, sb, fb, wb, xb⟩ = true := hmb
  obtain ⟨l1, l2, l3, l4, l5⟩ := It.may_small hmay2
  obtain ⟨m1, m2, m3, m4, m5⟩ := It.may_small hmayb
  generalize ns.length = N at *
  generalize ms.length = N2 at *
  have hmk3 : ∀ W, Below w.heap.size w W → Calls Try.prog 19 #[.slice p N cap, .int .u8 ex] W fun e W2 => ∃ aF cF aL cL, e = .returned (.agg #[.int .i64 ka, .string ⟨sa.toArray⟩, .slice aF fa.length cF, .slice aL wa.length cL, .int .i64 xa]) ∧ Fds W2 aF cF fa ∧ Wds W2 aL cL wa ∧ Below W.heap.size W W2 := hmk
  have hmk4 : ∀ W, Below w.heap.size w W → Calls Try.prog 19 #[.slice p2 N2 cap2, .int .u8 ex] W fun e W2 => ∃ aF cF aL cL, e = .returned (.agg #[.int .i64 kb, .string ⟨sb.toArray⟩, .slice aF fb.length cF, .slice aL wb.length cL, .int .i64 xb]) ∧ Fds W2 aF cF fb ∧ Wds W2 aL cL wb ∧ Below W.heap.size W W2 := hmk2
  have HMK := Lib.hid hmk3
  have HMK2 := Lib.hid hmk4
  have HMAY2 := Lib.hid hmay2
  have HL4 := Lib.hid l4
  have HL5 := Lib.hid l5
  clear hmk hmk2 hmk3 hmk4 hmay2 hmayb hma hmb hB hB2 hl hl2 hx hxb l4 l5 m3 m4 m5
  go_enter Try.func4, Try.ntmps4
  go_wp2_with fail
  refine (HMK.out _ (Below.refl _ _)).mono ?_
  rintro e w1 ⟨aF, cF, aL, cL, rfl, hF, hL, hb1⟩
  have HB1 := Lib.hid hb1
  have HF1 := Lib.hid hF
  have HL1 := Lib.hid hL
  clear hb1 hF hL
  go_wp2_with fail
  refine (HMK2.out _ (HB1.out)).mono ?_
  rintro e w2 ⟨bF, dF, bL, dL, rfl, hF, hL, hb2⟩
  have HB2 := Lib.hid hb2
  obtain ⟨WA, hWA⟩ : ∃ WA, (w2.alloc (.cells #[.int .i64 ka, .string ⟨sa.toArray⟩, .slice aF fa.length cF, .slice aL wa.length cL, .int .i64 xa] 25)).alloc (.cells #[.int .i64 kb, .string ⟨sb.toArray⟩, .slice bF fb.length dF, .slice bL wb.length dL, .int .i64 xb] 25) = WA := ⟨_, rfl⟩
  have hBA : Below w2.heap.size w2 WA := by rw [← hWA]; exact ((Below.refl _ w2).alloc (Nat.le_refl _) _).alloc (by simp) _
  have hzA : WA.heap.size = w2.heap.size + 2 := by rw [← hWA]; simp
  have hxa : ItBox WA w2.heap.size ka sa aF fa.length cF aL wa.length cL xa := by
    rw [← hWA]
    exact ItBox.later (ItBox.new w2 ka sa aF fa.length cF aL wa.length cL xa) ((Below.refl _ _).alloc (Nat.le_refl _) _)
  have hxb : ItBox WA (w2.heap.size + 1) kb sb bF fb.length dF bL wb.length dL xb := by
    rw [← hWA]
    have := ItBox.new (w2.alloc (itc ka sa aF fa.length cF aL wa.length cL xa)) kb sb bF fb.length dF bL wb.length dL xb
    rwa [World.size_alloc] at this
  have hFa := (HF1.out.later hb2).later hBA
  have hLa := (HL1.out.later hb2).later hBA
  have hFb := hF.later hBA
  have hLb := hL.later hBA
  have hcp := copy_any ka xa sa aF cF fa aL cL wa WA hFa hLa (by omega) (by omega) (by omega) (fun p hp => by have := HL4.out p hp; omega) (fun t ht => by have := HL5.out t ht; omega)
  unfold itv at hcp
  have HWA := Lib.hid hWA
  have HBA := Lib.hid hBA
  have HZA := Lib.hid hzA
  have HXA := Lib.hid hxa
  have HXB := Lib.hid hxb
  have HFAq := Lib.hid hFa
  have HLAq := Lib.hid hLa
  have HFBq := Lib.hid hFb
  have HLBq := Lib.hid hLb
  have HCP := Lib.hid hcp
  obtain ⟨c0, c1, c2, c3, c4⟩ := hxa.at
  clear hWA hBA hzA hxa hxb hFa hLa hFb hLb hcp hb2 hF hL
  go_upto_region 2 with (fail)
  rw [show (w2.alloc (.cells #[.int .i64 ka, .string ⟨sa.toArray⟩, .slice aF fa.length cF, .slice aL wa.length cL, .int .i64 xa] 25)).alloc (.cells #[.int .i64 kb, .string ⟨sb.toArray⟩, .slice bF fb.length dF, .slice bL wb.length dL, .int .i64 xb] 25) = WA from HWA.out]
  go_wp2_with fail
  refine HCP.out.mono ?_
  rintro e w3 ⟨eF, gF, eL, gL, rfl, hoF, hoL, hap, hb3⟩
  unfold itv
  obtain ⟨WC, hWC⟩ : ∃ WC, w3.alloc (.cells #[.int .i64 ka, .string ⟨sa.toArray⟩, .slice eF fa.length gF, .slice eL wa.length gL, .int .i64 xa] 25) = WC := ⟨_, rfl⟩
  have hBC : Below w3.heap.size w3 WC := by rw [← hWC]; exact (Below.refl _ w3).alloc (Nat.le_refl _) _
  have hxc : ItBox WC w3.heap.size ka sa eF fa.length gF eL wa.length gL xa := by rw [← hWC]; exact ItBox.new w3 ka sa eF fa.length gF eL wa.length gL xa
  have hxa := ItBox.later (ItBox.later HXA.out hb3) hBC
  have hxb := ItBox.later (ItBox.later HXB.out hb3) hBC
  have hz3 : w2.heap.size + 2 ≤ w3.heap.size := by have := hb3.size; have := HZA.out; omega
  have HGF := Lib.hid (owns_some hoF)
  have HGL := Lib.hid (owns_some hoL)
  obtain ⟨rF, oF⟩ := Fds.row hoF (fun p hp => by have := HL4.out p hp; omega)
  obtain ⟨rL, oL⟩ := Wds.row hoL (fun t ht => by have := HL5.out t ht; omega)
  have hbAC := hb3.trans (hBC.mono hb3.size)
  have hFa := HFAq.out.later hbAC
  have hLa := HLAq.out.later hbAC
  have hFb := HFBq.out.later hbAC
  have hLb := HLBq.out.later hbAC
  have hFc := rF.later hBC
  have hLc := rL.later hBC
  obtain ⟨c0, c1, c2, c3, c4⟩ := hxa.at
  obtain ⟨d0, d1, d2, d3, d4⟩ := hxb.at
  obtain ⟨e0, e1, e2, e3, e4⟩ := hxc.at
  have hm := fun W (h : Below WC.heap.size WC W) => may_any ka xa sa aF cF fa aL cL wa W (hFa.later h) (hLa.later h) (by omega) (by omega)
  have hs := fun W (h : Below WC.heap.size WC W) => same_any ka kb xa xb sa sb aF bF cF dF fa fb aL bL cL dL wa wb W (hFa.later h) (hFb.later h) (hLa.later h) (hLb.later h)
  have hr := fun W (h : Below WC.heap.size WC W) => refSame_any ka kb xa xb sa sb aF bF cF dF fa fb aL bL cL dL wa wb W (hFa.later h) (hFb.later h) (hLa.later h) (hLb.later h)
  have ht := fun W (h : Below WC.heap.size WC W) => type_any ka sa aF fa.length cF aL wa.length cL xa W
  have hrt := fun W (h : Below WC.heap.size WC W) => refType_any ka sa aF fa.length cF aL wa.length cL xa W
  have hal := fun W (h : Below WC.heap.size WC W) => alive_any ka sa aF fa.length cF aL wa.length cL xa now W
  have hra := fun W (h : Below WC.heap.size WC W) => refAlive_any ka sa aF fa.length cF aL wa.length cL xa now W
  have hc := fun W (h : Below WC.heap.size WC W) => refSame_any ka ka xa xa sa sa eF aF gF cF fa fa eL aL gL cL wa wa W (hFc.later h) (hFa.later h) (hLc.later h) (hLa.later h)
  rw [HMAY2.out] at hm
  rw [It.same_self] at hc
  unfold itv at hm hs hr ht hrt hal hra hc
  have HHM := Lib.hid hm
  have HHS := Lib.hid hs
  have HHR := Lib.hid hr
  have HHT := Lib.hid ht
  have HHRT := Lib.hid hrt
  have HHAL := Lib.hid hal
  have HHRA := Lib.hid hra
  have HHC := Lib.hid hc
  have HS : WC.drew.cell? ⟨w2.heap.size, 0, none⟩ = some (.int .i64 ka) ∧ WC.drew.cell? ⟨w2.heap.size, 1, none⟩ = some (.string ⟨sa.toArray⟩) ∧ WC.drew.cell? ⟨w2.heap.size, 2, none⟩ = some (.slice aF fa.length cF) ∧ WC.drew.cell? ⟨w2.heap.size, 3, none⟩ = some (.slice aL wa.length cL) ∧ WC.drew.cell? ⟨w2.heap.size, 4, none⟩ = some (.int .i64 xa) ∧ WC.drew.cell? ⟨w2.heap.size + 1, 0, none⟩ = some (.int .i64 kb) ∧ WC.drew.cell? ⟨w2.heap.size + 1, 1, none⟩ = some (.string ⟨sb.toArray⟩) ∧ WC.drew.cell? ⟨w2.heap.size + 1, 2, none⟩ = some (.slice bF fb.length dF) ∧ WC.drew.cell? ⟨w2.heap.size + 1, 3, none⟩ = some (.slice bL wb.length dL) ∧ WC.drew.cell? ⟨w2.heap.size + 1, 4, none⟩ = some (.int .i64 xb) ∧ WC.drew.cell? ⟨w3.heap.size, 0, none⟩ = some (.int .i64 ka) ∧ WC.drew.cell? ⟨w3.heap.size, 1, none⟩ = some (.string ⟨sa.toArray⟩) ∧ WC.drew.cell? ⟨w3.heap.size, 2, none⟩ = some (.slice eF fa.length gF) ∧ WC.drew.cell? ⟨w3.heap.size, 3, none⟩ = some (.slice eL wa.length gL) ∧ WC.drew.cell? ⟨w3.heap.size, 4, none⟩ = some (.int .i64 xa) ∧ Below WC.heap.size WC WC.drew :=
    ⟨(World.cell?_drew _ _).trans c0, (World.cell?_drew _ _).trans c1, (World.cell?_drew _ _).trans c2, (World.cell?_drew _ _).trans c3, (World.cell?_drew _ _).trans c4, (World.cell?_drew _ _).trans d0, (World.cell?_drew _ _).trans d1, (World.cell?_drew _ _).trans d2, (World.cell?_drew _ _).trans d3, (World.cell?_drew _ _).trans d4, (World.cell?_drew _ _).trans e0, (World.cell?_drew _ _).trans e1, (World.cell?_drew _ _).trans e2, (World.cell?_drew _ _).trans e3, (World.cell?_drew _ _).trans e4, (Below.refl _ _).drew⟩
  have HWC := Lib.hid hWC
  have HBC := Lib.hid hBC
  have HB3 := Lib.hid hb3
  have HFA := Lib.hid hFa
  have HLA := Lib.hid hLa
  have HFC := Lib.hid hFc
  have HLC := Lib.hid hLc
  have HOF := Lib.hid oF
  have HOL := Lib.hid oL
  have HAP := Lib.hid hap
  have HXC := Lib.hid hxc
  have HXA3 := Lib.hid hxa
  clear c0 c1 c2 c3 c4 d0 d1 d2 d3 d4 e0 e1 e2 e3 e4 hm hs hr ht hrt hal hra hc hWC hBC hb3 hFa hLa hFb hLb hFc hLc oF oL hap hxc hxa hxb rF rL hoF hoL hbAC
  go_upto_region 3 with (fail)
  rw [show w3.alloc (.cells #[.int .i64 ka, .string ⟨sa.toArray⟩, .slice eF fa.length gF, .slice eL wa.length gL, .int .i64 xa] 25) = WC from HWC.out]
  have hI1 : IntKind.i64.wrap now = now := IntWalk.i64_in _ (by omega)
  go_region_held3 (fun W' => W'.cell? ⟨w2.heap.size, 0, none⟩ = some (.int .i64 ka) ∧ W'.cell? ⟨w2.heap.size, 1, none⟩ = some (.string ⟨sa.toArray⟩) ∧ W'.cell? ⟨w2.heap.size, 2, none⟩ = some (.slice aF fa.length cF) ∧ W'.cell? ⟨w2.heap.size, 3, none⟩ = some (.slice aL wa.length cL) ∧ W'.cell? ⟨w2.heap.size, 4, none⟩ = some (.int .i64 xa) ∧ W'.cell? ⟨w2.heap.size + 1, 0, none⟩ = some (.int .i64 kb) ∧ W'.cell? ⟨w2.heap.size + 1, 1, none⟩ = some (.string ⟨sb.toArray⟩) ∧ W'.cell? ⟨w2.heap.size + 1, 2, none⟩ = some (.slice bF fb.length dF) ∧ W'.cell? ⟨w2.heap.size + 1, 3, none⟩ = some (.slice bL wb.length dL) ∧ W'.cell? ⟨w2.heap.size + 1, 4, none⟩ = some (.int .i64 xb) ∧ W'.cell? ⟨w3.heap.size, 0, none⟩ = some (.int .i64 ka) ∧ W'.cell? ⟨w3.heap.size, 1, none⟩ = some (.string ⟨sa.toArray⟩) ∧ W'.cell? ⟨w3.heap.size, 2, none⟩ = some (.slice eF fa.length gF) ∧ W'.cell? ⟨w3.heap.size, 3, none⟩ = some (.slice eL wa.length gL) ∧ W'.cell? ⟨w3.heap.size, 4, none⟩ = some (.int .i64 xa) ∧ Below WC.heap.size WC W')
    (with_reducible exact HS)
    (first
      | (go_at_call 10; (with_reducible refine (HHM.out _ HS.2.2.2.2.2.2.2.2.2.2.2.2.2.2.2).mono ?_); rintro e w1 ⟨rfl, hb⟩; replace HS := madeS_next HS hb; clear hb)
      | (go_at_call 16; (with_reducible refine (HHS.out _ HS.2.2.2.2.2.2.2.2.2.2.2.2.2.2.2).mono ?_); rintro e w1 ⟨rfl, hb⟩; replace HS := madeS_next HS hb; clear hb)
      | (go_at_call 17; (with_reducible refine (HHR.out _ HS.2.2.2.2.2.2.2.2.2.2.2.2.2.2.2).mono ?_); rintro e w1 ⟨rfl, hb⟩; replace HS := madeS_next HS hb; clear hb)
      | (go_at_call 17; (with_reducible refine (HHC.out _ HS.2.2.2.2.2.2.2.2.2.2.2.2.2.2.2).mono ?_); rintro e w1 ⟨rfl, hb⟩; replace HS := madeS_next HS hb; clear hb)
      | (go_at_call 14; (with_reducible refine (HHT.out _ HS.2.2.2.2.2.2.2.2.2.2.2.2.2.2.2).mono ?_); rintro e w1 ⟨rfl, hb⟩; replace HS := madeS_next HS hb; clear hb)
      | (go_at_call 15; (with_reducible refine (HHRT.out _ HS.2.2.2.2.2.2.2.2.2.2.2.2.2.2.2).mono ?_); rintro e w1 ⟨rfl, hb⟩; replace HS := madeS_next HS hb; clear hb)
      | (go_at_call 12; (with_reducible refine (HHAL.out _ HS.2.2.2.2.2.2.2.2.2.2.2.2.2.2.2).mono ?_); rintro e w1 ⟨rfl, hb⟩; replace HS := madeS_next HS hb; clear hb)
      | (go_at_call 13; (with_reducible refine (HHRA.out _ HS.2.2.2.2.2.2.2.2.2.2.2.2.2.2.2).mono ?_); rintro e w1 ⟨rfl, hb⟩; replace HS := madeS_next HS hb; clear hb))
  have HBC1 := Lib.hid HS.2.2.2.2.2.2.2.2.2.2.2.2.2.2.2
  have hnL : (wa.length : Int) ≤ 1000 := by omega
  have hnF : (fa.length : Int) ≤ 1000 := by omega
  have hzC : WC.heap.size = w3.heap.size + 1 := by rw [← HWC.out]; simp
  have HZC := Lib.hid hzC
  obtain ⟨W3, rfl⟩ : ∃ W3 : World, W3 = w1 := ⟨_, rfl⟩
  have HXC3 := Lib.hid (ItBox.later HXC.out HBC1.out)
  have hz33 : w3.heap.size < W3.heap.size := by have := HBC1.out.size; omega
  clear HS hzC l1 l2 m1 m2
  have HTW : Hid (TurnW W3 eL gL wa.length W3) := Lib.hid ⟨wa, rfl, HLC.out.later HBC1.out, fun hn g e j => by
    obtain ⟨g', h1, h2, h3, h4⟩ := HOL.out (List.length_pos_iff.1 hn)
    rw [h1] at e
    injection e with e
    injection e with e
    subst e
    exact ((HBC.out.trans (HBC1.out.mono HBC.out.size)).frozen (p := ⟨g', j, none⟩) h3).trans (h4 j), Keeps.refl _ _⟩
  go_wp2_with fail
  go_loopw [12] (fun i wr => ∃ q : Nat, q ≤ wa.length ∧ i = .int .i64 q ∧ Hid (TurnW W3 eL gL wa.length wr)) (fun i _ => wa.length - (intOf i).toNat)
  case atStart => exact ⟨0, Nat.zero_le _, rfl, HTW⟩
  case round =>
    obtain ⟨q, hq, rfl, HQ⟩ := hrel
    obtain ⟨l, hl1, hl2, hl4, hlk⟩ := HQ.out
    have hxc : ItBox wr w3.heap.size ka sa eF fa.length gF eL wa.length gL xa := hlk.heap HXC3.out (fun o e => by have := (HGL.out _ o e).2.1; omega)
    have HXCr := Lib.hid hxc
    obtain ⟨e0, e1, e2, e3, e4⟩ := ItBox.at hxc
    by_cases hlt : q < wa.length
    · obtain ⟨g, hge, -⟩ := HOL.out (List.length_pos_iff.1 (by omega))
      subst hge
      obtain ⟨b', o', he, _, hcc⟩ := hl2.get (by omega)
      cases he
      have y0 := hcc q (by omega)
      rw [Nat.zero_add] at y0
      have fz := hl4 (by omega) g rfl q
      have k0 : (0 : Int) ≤ (q : Int) := by omega
      have k1 : (q : Int) < (wa.length : Int) := by omega
      have kT : ((q : Int)).toNat = q := by omega
      have HST := Lib.hid (TurnW.step (x := [116, 117, 114, 110, 101, 100]) HQ.out hlt (by decide))
      clear hcc hl1 hl2 hl4 hlk hxc HQ
      go_wp2_with fail
      go_roundw
      case rel => exact ⟨q + 1, by omega, by go_num, HST⟩
      case measure => simp [intOf]; omega
    · obtain rfl : q = wa.length := by omega
      have k1 : (wa.length : Int) ≤ (wa.length : Int) := Int.le_refl _
      obtain ⟨W4, rfl⟩ : ∃ W4 : World, W4 = wr := ⟨_, rfl⟩
      have HK4 := Lib.hid hlk
      have HBA4 : Hid (Below WA.heap.size W3 W4) := Lib.hid (hlk.below (by have := HB3.out.size; omega) fun j hj o e => by have := (HGL.out _ o e).1; omega)
      have HFD : Hid (Fds W4 eF gF fa) := Lib.hid ((HFC.out.later HBC1.out).keep hlk.size fun b off e hb => hlk.block b hb fun o e' => by
        have h1 := (HGF.out b off e).2.2
        have h2 := (HGL.out b o e').2.2
        exact HAP.out b h1 h2)
      have HTF : Hid (TurnF W4 eF gF fa.length W4) := Lib.hid ⟨fa, rfl, HFD.out, fun hn g e j => by
        obtain ⟨g', h1, h2, h3, h4⟩ := HOF.out (List.length_pos_iff.1 hn)
        rw [h1] at e
        injection e with e
        injection e with e
        subst e
        have hne : ∀ o, eL ≠ some ⟨g', o, none⟩ := fun o e' => HAP.out g' (HGF.out g' 0 h1).2.2 (HGL.out g' o e').2.2
        exact (HK4.out.frozen (p := ⟨g', j, none⟩) (by show g' < _; omega) hne).trans (((HBC.out.trans (HBC1.out.mono HBC.out.size)).frozen (p := ⟨g', j, none⟩) h3).trans (h4 j)), Keeps.refl _ _⟩
      have hz44 : w3.heap.size < W4.heap.size := hxc.lt
      have HZ34 := Lib.hid hlk.size
      clear hl1 hl2 hl4 hlk HQ hxc hlt hq
      go_wp2_with fail
      go_loopw [13] (fun i wr => ∃ q : Nat, q ≤ fa.length ∧ i = .int .i64 q ∧ Hid (TurnF W4 eF gF fa.length wr)) (fun i _ => fa.length - (intOf i).toNat)
      case atStart => exact ⟨0, Nat.zero_le _, rfl, HTF⟩
      case round =>
        obtain ⟨q, hq, rfl, HQ⟩ := hrel
        obtain ⟨f, hl1, hl2, hl4, hlk⟩ := HQ.out
        have hxc : ItBox wr w3.heap.size ka sa eF fa.length gF eL wa.length gL xa := hlk.heap HXCr.out (fun o e => by have := (HGF.out _ o e).2.1; omega)
        obtain ⟨e0, e1, e2, e3, e4⟩ := ItBox.at hxc
        by_cases hlt : q < fa.length
        · obtain ⟨g, hge, -⟩ := HOF.out (List.length_pos_iff.1 (by omega))
          subst hge
          obtain ⟨b', o', he, _, hcc⟩ := hl2.get (by omega)
          cases he
          have y0 := (hcc q (by omega)).2
          rw [Nat.zero_add] at y0
          have fz := hl4 (by omega) g rfl (q * 2 + 1)
          have k0 : (0 : Int) ≤ (q : Int) := by omega
          have k1 : (q : Int) < (fa.length : Int) := by omega
          have kT : ((q : Int)).toNat = q := by omega
          have HST := Lib.hid (TurnF.step (x := [116, 117, 114, 110, 101, 100]) HQ.out hlt (by decide))
          clear hcc hl1 hl2 hl4 hlk hxc HQ
          go_wp2_with fail
          go_roundw
          case rel => exact ⟨q + 1, by omega, by go_num, HST⟩
          case measure => simp [intOf]; omega
        · obtain rfl : q = fa.length := by omega
          obtain ⟨W5, rfl⟩ : ∃ W5 : World, W5 = wr := ⟨_, rfl⟩
          have hbA5 : Below WA.heap.size W4 W5 := hlk.below (by have := HB3.out.size; have := HZ34.out; omega) fun j hj o e => by have := (HGF.out _ o e).1; omega
          have hbA : Below WA.heap.size WA W5 := (((HB3.out.trans (HBC.out.mono HB3.out.size)).trans (HBC1.out.mono (by have := HB3.out.size; have := HBC.out.size; omega))).trans HBA4.out).trans hbA5
          have hw5 : Below w.heap.size w W5 := ((HB1.out.trans (HB2.out.mono HB1.out.size)).trans (HBA.out.mono (by have := HB1.out.size; have := HB2.out.size; omega))).trans (hbA.mono (by have := HB1.out.size; have := HB2.out.size; have := HBA.out.size; omega))
          have hxa5 := ItBox.later HXA.out hbA
          have hFa5 := HFAq.out.later hbA
          have hLa5 := HLAq.out.later hbA
          have hk5 := fun W (h : Below W5.heap.size W5 W) => HMK.out W (hw5.trans (h.mono hw5.size))
          have hs5 := fun W (h : Below W5.heap.size W5 W) (xF : Option Addr) (yF : Nat) (xL : Option Addr) (yL : Nat) (hF : Fds W xF yF fa) (hL : Wds W xL yL wa) => refSame_any ka ka xa xa sa sa aF xF cF yF fa fa aL xL cL yL wa wa W (hFa5.later h) hF (hLa5.later h) hL
          rw [It.same_self] at hs5
          unfold itv at hs5
          have HK5 := Lib.hid hk5
          have HS5 := Lib.hid hs5
          have HW5 := Lib.hid hw5
          obtain ⟨c0, c1, c2, c3, c4⟩ := ItBox.at hxa5
          have HS : W5.drew.cell? ⟨w2.heap.size, 0, none⟩ = some (.int .i64 ka) ∧ W5.drew.cell? ⟨w2.heap.size, 1, none⟩ = some (.string ⟨sa.toArray⟩) ∧ W5.drew.cell? ⟨w2.heap.size, 2, none⟩ = some (.slice aF fa.length cF) ∧ W5.drew.cell? ⟨w2.heap.size, 3, none⟩ = some (.slice aL wa.length cL) ∧ W5.drew.cell? ⟨w2.heap.size, 4, none⟩ = some (.int .i64 xa) ∧ Below W5.heap.size W5 W5.drew := ⟨(World.cell?_drew _ _).trans c0, (World.cell?_drew _ _).trans c1, (World.cell?_drew _ _).trans c2, (World.cell?_drew _ _).trans c3, (World.cell?_drew _ _).trans c4, (Below.refl _ _).drew⟩
          clear hl1 hl2 hl4 hlk HQ hxc hlt hq hbA5 hbA hw5 hxa5 hFa5 hLa5 hk5 hs5 c0 c1 c2 c3 c4
          go_upto_region 13 with (fail)
          go_region_held3 (fun W' => W'.cell? ⟨w2.heap.size, 0, none⟩ = some (.int .i64 ka) ∧ W'.cell? ⟨w2.heap.size, 1, none⟩ = some (.string ⟨sa.toArray⟩) ∧ W'.cell? ⟨w2.heap.size, 2, none⟩ = some (.slice aF fa.length cF) ∧ W'.cell? ⟨w2.heap.size, 3, none⟩ = some (.slice aL wa.length cL) ∧ W'.cell? ⟨w2.heap.size, 4, none⟩ = some (.int .i64 xa) ∧ Below W5.heap.size W5 W')
            (with_reducible exact HS)
            (first
              | (go_at_call 19; (with_reducible refine (HK5.out _ HS.2.2.2.2.2).mono ?_); rintro e w1 ⟨xF, yF, xL, yL, rfl, hF, hL, hb⟩; have HFM := Lib.hid hF; have HLM := Lib.hid hL; replace HS := awS_next HS hb; clear hb hF hL)
              | (go_at_call 17; (with_reducible refine (HS5.out _ HS.2.2.2.2.2 _ _ _ _ HFM.out HLM.out).mono ?_); rintro e w1 ⟨rfl, hb⟩; replace HS := awS_next HS hb; clear hb)
              | (go_at_call 9; (with_reducible refine (awake_any _).mono ?_); rintro e w1 ⟨rfl, hb⟩; replace HS := awS_next HS hb; clear hb))
          go_wp2
          go_ret
          exact ⟨rfl, HW5.out.trans (HS.2.2.2.2.2.mono HW5.out.size)⟩
end Go.Proofs.Ytdnonginlbjcoaa
