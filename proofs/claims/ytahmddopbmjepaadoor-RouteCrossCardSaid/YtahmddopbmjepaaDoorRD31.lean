/- The walk of the law RouteCross (14.1). -/
import Derived.Test.YtahmddopbmjepaaDoorRD24
import Derived.Test.YtahmddopbmjepaaDoorRD15
import Derived.Test.YtahmddopbmjepaaDoorRD30
namespace Go.Proofs.YtahmddopbmjepaaDoor
open Go.RowKit Go.Shelf
attribute [local go_sem] Oper.semAt_some
set_option linter.unusedVariables false
set_option linter.unusedSimpArgs false

def zeroNx : Array Value := #[.int .i64 0, .int .i64 0, .int .i64 0, .int .i64 0, .int .i64 0, .slice none 0 0, .slice none 0 0, .slice none 0 0, .int .i64 0, .slice none 0 0, .int .i64 0, .int .i64 0, .int .i64 0, .slice none 0 0, .int .i64 0, .int .i64 0, .int .i64 0, .slice none 0 0, .slice none 0 0, .int .i64 0, .slice none 0 0, .int .i64 0]

/-- what a made space is like. -/
def MadeDb (w : World) (e : Ending) (W : World) : Prop := ∃ (a : Option Addr) (c : Nat) (ps : List Lp), e = .returned (.slice a ps.length c) ∧ Prs W a c ps ∧ AscL ps ∧ (∀ p ∈ ps, p.p.Sm) ∧ ps.length ≤ 1000 ∧ Below w.heap.size w W

set_option maxRecDepth 100000 in
set_option maxHeartbeats 8000000 in
theorem routeCross_go (a b : List UInt8) (id ma : Int) (asking : Bool) (aB : Option Addr) (cB : Nat) (ns : List UInt8) (w : World) (hE : Env w) (ha : a.length ≤ 9223372036854775807) (hb0 : b.length ≤ 9223372036854775807) (i0 : 0 ≤ id) (i1 : id ≤ 255) (m0 : -128 ≤ ma) (m1 : ma ≤ 127)
    (hl0 : ns.length ≤ 9223372036854775807) (HMK : ns.length ≤ 60 → ∀ W, Below w.heap.size w W → Calls Tryd.prog 17 #[.slice aB ns.length cB] W (MadeDb W)) :
    Calls Tryd.prog 7 #[.string ⟨a.toArray⟩, .string ⟨b.toArray⟩, .int .u8 id, .int .i8 ma, .bool asking, .slice aB ns.length cB] w fun e w' => e = .returned (.bool true) ∧ Below w.heap.size w w' := by
  have HA : Hid (∀ W, Below w.heap.size w W → Calls Tryd.prog 11 #[] W fun e w' => e = .returned (.bool true) ∧ Below W.heap.size W w') := Lib.hid fun W hb => awake_any W (hE.later hb)
  have hsa : (⟨a.toArray⟩ : ByteArray).size = a.length := by simp [ByteArray.size]
  have hsb : (⟨b.toArray⟩ : ByteArray).size = b.length := by simp [ByteArray.size]
  have HB := Lib.hid (Below.refl w.heap.size w)
  by_cases g1 : 40 < a.length
  · have d1 : decide ((40 : Int) < (a.length : Int)) = true := decide_eq_true (by omega)
    clear hE HMK
    go_enter Tryd.func7, Tryd.ntmps7
    go_wp2_with fail
    refine (HA.out _ HB.out).mono ?_
    rintro e w9 ⟨rfl, hb⟩
    have HB9 := Lib.hid hb
    clear hb
    go_wp2_with fail
    go_ret
    exact ⟨rfl, HB9.out⟩
  have d1 : decide ((40 : Int) < (a.length : Int)) = false := decide_eq_false (by omega)
  by_cases g2 : 40 < b.length
  · have d2 : decide ((40 : Int) < (b.length : Int)) = true := decide_eq_true (by omega)
    clear hE HMK
    go_enter Tryd.func7, Tryd.ntmps7
    go_wp2_with fail
    refine (HA.out _ HB.out).mono ?_
    rintro e w9 ⟨rfl, hb⟩
    have HB9 := Lib.hid hb
    clear hb
    go_wp2_with fail
    go_ret
    exact ⟨rfl, HB9.out⟩
  have d2 : decide ((40 : Int) < (b.length : Int)) = false := decide_eq_false (by omega)
  by_cases g3 : 60 < ns.length
  · have d3 : decide ((60 : Int) < (ns.length : Int)) = true := decide_eq_true (by omega)
    clear hE HMK
    go_enter Tryd.func7, Tryd.ntmps7
    go_wp2_with fail
    refine (HA.out _ HB.out).mono ?_
    rintro e w9 ⟨rfl, hb⟩
    have HB9 := Lib.hid hb
    clear hb
    go_wp2_with fail
    go_ret
    exact ⟨rfl, HB9.out⟩
  have d3 : decide ((60 : Int) < (ns.length : Int)) = false := decide_eq_false (by omega)
  have HM := Lib.hid (HMK (by omega) w HB.out)
  obtain ⟨i, hi⟩ : ∃ i, id % 8 = i := ⟨_, rfl⟩
  have hi' : id.tmod 8 = i := by rw [← hi]; exact Int.tmod_eq_emod_of_nonneg i0
  obtain ⟨m, hm⟩ : ∃ m, ma.tmod 8 = m := ⟨_, rfl⟩
  have bm : -8 < m ∧ m < 8 := by
    rw [← hm]
    have h1 := Int.tmod_lt_of_pos ma (b := 8) (by decide)
    have h2 := Int.lt_tmod_of_pos ma (b := 8) (by decide)
    omega
  have bi : 0 ≤ i ∧ i < 8 := by omega
  have hw1 : IntKind.i64.wrap (m - 1) = m - 1 := IntWalk.i64_in _ (by omega)
  obtain ⟨q, hq⟩ : ∃ q, m - 1 = q := ⟨_, rfl⟩
  have bq : -8 ≤ q ∧ q < 7 := by omega
  have hw2 : wrap64 (m - 1) = q := by rw [← hq]; unfold wrap64; omega
  obtain ⟨x, hx⟩ : ∃ x, slotOf a = x := ⟨_, rfl⟩
  obtain ⟨y, hy⟩ : ∃ y, slotOf b = y := ⟨_, rfl⟩
  have hxl : x < 16384 := by rw [← hx]; exact slotOf_lt a
  have hyl : y < 16384 := by rw [← hy]; exact slotOf_lt b
  have HSA : Hid (∀ W : World, Calls Tryd.prog 18 #[.string ⟨a.toArray⟩] W fun e w' => e = .returned (.int .i64 (x : Int)) ∧ W = w') := Lib.hid fun W => by rw [← hx]; exact refSlot_key a W ha
  have HSB : Hid (∀ W : World, Calls Tryd.prog 18 #[.string ⟨b.toArray⟩] W fun e w' => e = .returned (.int .i64 (y : Int)) ∧ W = w') := Lib.hid fun W => by rw [← hy]; exact refSlot_key b W hb0
  have HE := Lib.hid hE
  have HX := Lib.hid hx
  have HY := Lib.hid hy
  clear hE HMK hx hy hi
  go_enter Tryd.func7, Tryd.ntmps7
  go_wp2_with fail
  refine (HM.out).mono ?_
  rintro e w1 ⟨aD, cD, ps, rfl, hP, hasc, hsm, hpl, hbM⟩
  have HP := Lib.hid hP
  have HASC := Lib.hid hasc
  have HSM := Lib.hid hsm
  have HB1 := Lib.hid hbM
  have hpc := hP.len
  clear hP hasc hsm hbM HM
  obtain ⟨gB, hgB⟩ : ∃ g, w1.heap.size = g := ⟨_, rfl⟩
  obtain ⟨wB, hwB⟩ : ∃ wB, w1.alloc (.cells zeroNx 36) = wB := ⟨_, rfl⟩
  have hgB' : wB.heap[w1.heap.size]? = some (.cells zeroNx 36 (0, 0)) := by rw [← hwB]; exact World.alloc_heap_new w1 _
  have hbB : Below w1.heap.size w1 wB := by rw [← hwB]; exact (Below.refl _ w1).alloc (Nat.le_refl _) _
  obtain ⟨n0, hn0⟩ : ∃ n0 : NV, NV.of 8 i q SV.z ⟨aD, ps.length, cD⟩ SV.z = n0 := ⟨_, rfl⟩
  have HN0E : Hid (n0.cells = (NV.of 8 i q SV.z ⟨aD, ps.length, cD⟩ SV.z).cells) := Lib.hid (by rw [hn0])
  have HN0 := Lib.hid hn0
  have hxC := NdBox.ofRow (n := n0) hgB'
  have hbC := below_setRow hbB (Nat.le_refl _) n0.cells
  obtain ⟨wC, hwC⟩ : ∃ wC, wB.setRow w1.heap.size n0.cells = wC := ⟨_, rfl⟩
  rw [hwC] at hxC hbC
  have HXC := Lib.hid hxC
  have HBC1 := Lib.hid hbC
  have HBC := Lib.hid (HB1.out.trans (hbC.mono HB1.out.size))
  have hltC := hxC.lt
  have hw01 : w.heap.size ≤ w1.heap.size := HB1.out.size
  clear hn0 hgB hxC hbC hbB
  unfold zeroNx at hwB
  go_wp2_with (first | (refine wpList_store_row rfl 36 (.tmp 13) (.tmp 48) rfl w1.heap.size n0.cells ?_ ?_ 36 zeroNx hgB' ?_ ?_ ?_ ?_; (rfl); (rw [HN0E.out]; rfl); (kernel_rfl); (rfl); (exact NV.one _)))
  refine (HSA.out _).mono ?_
  rintro e w2 ⟨rfl, rfl⟩
  go_wp2_with fail
  refine (HSB.out _).mono ?_
  rintro e w2 ⟨rfl, rfl⟩
  clear hwB hwC hgB'
  have HDEC : Hid (∀ (W : World) (n : NV) (d : Rt.Nd) (aK : Option Addr) (cK : Nat) (ks : List (List UInt8)), Below w.heap.size w W → Node W n d ps → d.mv.length ≤ 1 → Ow.VL d.cl → Wds W aK cK ks → ks.length ≤ 2 →
      Calls Tryd.prog 12 #[.agg n.cells, .slice aK ks.length cK, .bool asking] W fun e w' => e = .returned (.string ⟨(Rt.decideS d ks asking).toArray⟩) ∧ Below W.heap.size W w') := Lib.hid fun W n d aK cK ks hb hN h4 h5 hW h6 =>
    decide_any n d ps asking aK cK ks W (HE.out.later hb) hN (by omega) HASC.out HSM.out (by omega) h5 hW (by omega)
  by_cases hxy : x = y
  · have hxy' : ((x : Int) != (y : Int)) = false := by rw [hxy]; simp
    -- the claim
    obtain ⟨wK, hwK⟩ : ∃ wK, wC.alloc (.cells #[.int .i64 (x : Int), .int .i64 (x : Int), .int .i64 7, .int .i64 4] 64) = wK := ⟨_, rfl⟩
    have hkK : wK.heap[wC.heap.size]? = some (.cells #[.int .i64 (x : Int), .int .i64 (x : Int), .int .i64 7, .int .i64 4] 64 (0, 0)) := by rw [← hwK]; exact World.alloc_heap_new wC _
    have hbK : Below wC.heap.size wC wK := by rw [← hwK]; exact (Below.refl _ wC).alloc (Nat.le_refl _) _
    have hltK : wC.heap.size < wK.heap.size := by rw [← hwK]; simp
    have hxK := HXC.out.later hbK HXC.out.lt
    have z5 := hxK.few.2.2.1
    have f5 := hxK.free 5
    have hxL := hxK.set5 (some ⟨wC.heap.size, 0, none⟩) 1 1
    have hkL := heap_far hkK (show w1.heap.size ≠ wC.heap.size by omega) 5 (.slice (some ⟨wC.heap.size, 0, none⟩) 1 1)
    have hbL1 : Below w1.heap.size w1 (wK.setCell ⟨w1.heap.size, 5, none⟩ (.slice (some ⟨wC.heap.size, 0, none⟩) 1 1)) := (HBC1.out.trans (hbK.mono (by omega))).setCell (p := ⟨w1.heap.size, 5, none⟩) (Nat.le_refl _) _
    obtain ⟨wL, hwL⟩ : ∃ wL, wK.setCell ⟨w1.heap.size, 5, none⟩ (.slice (some ⟨wC.heap.size, 0, none⟩) 1 1) = wL := ⟨_, rfl⟩
    rw [hwL] at hxL hkL hbL1
    have hsL : wK.heap.size ≤ wL.heap.size := by rw [← hwL]; simp [World.setCell]
    -- the move
    obtain ⟨wM, hwM⟩ : ∃ wM, wL.alloc (.cells #[.int .i64 (x : Int), .int .i64 1, .int .i64 0, .string ⟨#[]⟩] 61) = wM := ⟨_, rfl⟩
    have hmM : MvBox wM wL.heap.size (x : Int) 1 0 [] := by rw [← hwM]; exact MvBox.new wL x 1 0 []
    have hbMm : Below wL.heap.size wL wM := by rw [← hwM]; exact (Below.refl _ wL).alloc (Nat.le_refl _) _
    have hxM := hxL.later hbMm hxL.lt
    have z7 := hxM.few.2.2.2.2
    have f7 := hxM.free 7
    have hxN := hxM.set7 (some ⟨wL.heap.size, 0, none⟩) 1 1
    have hmN := heap_far hmM (show w1.heap.size ≠ wL.heap.size by omega) 7 (.slice (some ⟨wL.heap.size, 0, none⟩) 1 1)
    have hkN := heap_far ((hbMm.block _ (by omega)).trans hkL) (show w1.heap.size ≠ wC.heap.size by omega) 7 (.slice (some ⟨wL.heap.size, 0, none⟩) 1 1)
    have hbN1 : Below w1.heap.size w1 (wM.setCell ⟨w1.heap.size, 7, none⟩ (.slice (some ⟨wL.heap.size, 0, none⟩) 1 1)) := (hbL1.trans (hbMm.mono (by omega))).setCell (p := ⟨w1.heap.size, 7, none⟩) (Nat.le_refl _) _
    obtain ⟨wN, hwN⟩ : ∃ wN, wM.setCell ⟨w1.heap.size, 7, none⟩ (.slice (some ⟨wL.heap.size, 0, none⟩) 1 1) = wN := ⟨_, rfl⟩
    rw [hwN] at hxN hmN hkN hbN1
    -- the keys
    obtain ⟨wO, hwO⟩ : ∃ wO, wN.alloc (.cells #[.string ⟨a.toArray⟩, .string ⟨b.toArray⟩] 9) = wO := ⟨_, rfl⟩
    have hgO : wO.heap[wN.heap.size]? = some (.cells #[.string ⟨a.toArray⟩, .string ⟨b.toArray⟩] 9 (0, 0)) := by rw [← hwO]; exact World.alloc_heap_new wN _
    have hbO : Below wN.heap.size wN wO := by rw [← hwO]; exact (Below.refl _ wN).alloc (Nat.le_refl _) _
    have HXN := Lib.hid hxN
    have HXO := Lib.hid (hxN.later hbO hxN.lt)
    have hmO : MvBox wO wL.heap.size (x : Int) 1 0 [] := (hbO.block _ (Array.getElem?_eq_some_iff.1 hmN).1).trans hmN
    have hkO := (hbO.block _ (Array.getElem?_eq_some_iff.1 hkN).1).trans hkN
    have hb1O := hbN1.trans (hbO.mono hbN1.size)
    have HBO := Lib.hid (HB1.out.trans (hb1O.mono HB1.out.size))
    have HPO := Lib.hid (HP.out.later hb1O)
    have HNDO : Hid (Node wO ({ n0 with cl := ⟨some ⟨wC.heap.size, 0, none⟩, 1, 1⟩, mv := ⟨some ⟨wL.heap.size, 0, none⟩, 1, 1⟩ } : NV) ⟨i, q, [Rt.c7 (x : Int)], fun k => (rawL ps k).isSome, [⟨(x : Int), 1, 0, []⟩]⟩ ps) := Lib.hid (by
      rw [← HN0.out]
      exact { id := rfl, ms := rfl, idr := ⟨by show _ ≤ i; omega, by show i ≤ _; omega⟩, msr := ⟨by show _ ≤ q; omega, by show q ≤ _; omega⟩, cln := rfl, cl := cls_one (c := Rt.c7 (x : Int)) (by unfold Ow.FitC Rt.c7; simp only; omega) hkO, dbn := rfl, db := HPO.out, has := rfl, mvn := rfl, mv := mvs_at (m := ⟨(x : Int), 1, 0, []⟩) ⟨by simp only; omega, by simp only; omega, by simp only; omega, by simp only; decide⟩ hmO })
    have HDO := Lib.hid (HDEC.out wO ({ n0 with cl := ⟨some ⟨wC.heap.size, 0, none⟩, 1, 1⟩, mv := ⟨some ⟨wL.heap.size, 0, none⟩, 1, 1⟩ } : NV) _ (some ⟨wN.heap.size, 0, none⟩) 2 [a, b] HBO.out HNDO.out (by simp) (Rt.c7_vl hxl) (wds_two ha hb0 hgO) (by simp))
    have hsame : slotOf b = slotOf a := by rw [HX.out, HY.out, hxy]
    have HSAME := Lib.hid hsame
    obtain ⟨hasf, hhasf⟩ : ∃ f : List UInt8 → Bool, (fun k => (rawL ps k).isSome) = f := ⟨_, rfl⟩
    have HHF := Lib.hid hhasf
    obtain ⟨D, hD⟩ : ∃ D, Rt.decideS ⟨i, q, [Rt.c7 (x : Int)], fun k => (rawL ps k).isSome, [⟨(x : Int), 1, 0, []⟩]⟩ [a, b] asking = D := ⟨_, rfl⟩
    rw [hD] at HDO
    rw [hhasf] at hD
    have hlRa : (Rt.redir Rt.mvd (x : Int) 7).length ≤ 60 := by
      have h1 := dec_len (x : Int) (by omega) (by omega)
      have h2 := dec_len 7 (by omega) (by omega)
      unfold Rt.redir Rt.mvd; simp; omega
    have hlRb : (Rt.redir Rt.ask (x : Int) 1).length ≤ 60 := by
      have h1 := dec_len (x : Int) (by omega) (by omega)
      have h2 := dec_len 1 (by omega) (by omega)
      unfold Rt.redir Rt.ask; simp; omega
    clear hkK hbK hxK hxL hkL hbL1 hmM hbMm hxM hxN hmN hkN hbN1 hgO hbO hmO hkO hb1O hsame hhasf hxy
    go_wp2_with (first | (refine wpList_load_row rfl 36 (.tmp 13) rfl w1.heap.size rfl 36 ({ n0 with cl := ⟨some ⟨wC.heap.size, 0, none⟩, 1, 1⟩, mv := ⟨some ⟨wL.heap.size, 0, none⟩, 1, 1⟩ } : NV).cells (0, 0) _ HXN.out Tryd.underlying36 rfl (by kernel_rfl) ?_) | (refine wpList_load_rowG (by rfl) 36 (.tmp 13) rfl w1.heap.size rfl 36 ({ n0 with cl := ⟨some ⟨wC.heap.size, 0, none⟩, 1, 1⟩, mv := ⟨some ⟨wL.heap.size, 0, none⟩, 1, 1⟩ } : NV).cells (0, 0) _ HXN.out Tryd.underlying36 rfl (by kernel_rfl) ?_))
    refine (HDO.out).mono ?_
    rintro e w5 ⟨rfl, hb⟩
    have HB5 := Lib.hid (HBO.out.trans (hb.mono HBO.out.size))
    have HX5 := Lib.hid (HXO.out.later hb HXO.out.lt)
    have HP5 := Lib.hid (HPO.out.later hb)
    obtain ⟨u1, u2, -, u6, -⟩ := HX5.out.few
    have hni : n0.id = i := by rw [← HN0.out]; rfl
    have hnq : n0.ms = q := by rw [← HN0.out]; rfl
    have hnd : n0.db = ⟨aD, ps.length, cD⟩ := by rw [← HN0.out]; rfl
    clear hb hwK hwL hwM hwN hwO z5 f5 z7 f7
    have hbD := HB5.out.size
    by_cases hn : q = -1 ∧ (7 : Int) = i
    · -- the owner
      obtain ⟨hq1, hi7⟩ := hn
      have e1 : (i != 7) = false := by rw [← hi7]; rfl
      have e1b : (i == 7) = true := by rw [← hi7]; rfl
      have e2 : (q != -1) = false := by rw [hq1]; rfl
      have e2b : (q == -1) = true := by rw [hq1]; rfl
      have hD2 : D = if hasf a = true ∧ hasf b = true then [] else if hasf a = false ∧ hasf b = false then Rt.redir Rt.ask (x : Int) 1 else Rt.again := by
        rw [← hD, hq1, ← hi7]; exact Rt.pc4 hasf HSAME.out HX.out asking
      have hlD : D.length ≤ 60 := by
        rw [hD2]; split
        · simp
        · split
          · exact hlRb
          · decide
      have HRAW : Hid (∀ (k : List UInt8) (W : World), Below w5.heap.size w5 W → Calls Tryd.prog 23 #[.slice aD ps.length cD, .string ⟨k.toArray⟩] W fun e w' => ∃ k' s' aF nF cF aL nL cL z, e = .returned (.agg #[.int .i64 k', .string ⟨List.toArray s'⟩, .slice aF nF cF, .slice aL nL cL, .int .i64 z, .bool (hasf k)]) ∧ Below W.heap.size W w') :=
        Lib.hid fun k W hb => by
          refine (raw_any aD cD ps k W (HP5.out.later hb) (by omega)).mono ?_
          rintro e w' ⟨rfl, hb2⟩
          exact ⟨_, _, _, _, _, _, _, _, _, by rw [← HHF.out]; rfl, hb2⟩
      have HRD : Hid (∀ W : World, Below w5.heap.size w5 W → Calls Tryd.prog 14 #[.string ⟨D.toArray⟩] W fun e w' => ∃ W' x' y', Rt.ReadOf D W' x' y' ∧ e = .returned (.tuple #[.string ⟨W'.toArray⟩, .int .i64 x', .int .i64 y']) ∧ Below W.heap.size W w') := Lib.hid fun W hb => read_any D W (HE.out.later (HB5.out.trans (hb.mono HB5.out.size))) (by omega)
      obtain ⟨ya, hya⟩ : ∃ v, hasf a = v := ⟨_, rfl⟩
      obtain ⟨yb, hyb⟩ : ∃ v, hasf b = v := ⟨_, rfl⟩
      have HRA : Hid (∀ W : World, Below w5.heap.size w5 W → _) := Lib.hid fun W hb => HRAW.out a W hb
      have HRB : Hid (∀ W : World, Below w5.heap.size w5 W → _) := Lib.hid fun W hb => HRAW.out b W hb
      rw [hya] at HRA
      rw [hyb] at HRB
      rw [hya, hyb] at hD2
      have HD2 := Lib.hid hD2
      clear hD hD2 hya hyb hi7 hq1 HRAW hlRa hlRb
      go_upto_region 13 with (fail)
      have u6' : w5.cell? ⟨w1.heap.size, 6, none⟩ = some (.slice aD ps.length cD) := by
        have h := u6
        simp only [hnd] at h
        exact h
      have HS0 : w5.drew.cell? ⟨w1.heap.size, 6, none⟩ = some (.slice aD ps.length cD) := (World.cell?_drew _ _).trans u6'
      have HBq := Lib.hid ((Below.refl w5.heap.size w5).drew)
      clear u6 u6' u1 u2
      refine wp_region_L (S := fun W => W.cell? ⟨w1.heap.size, 6, none⟩ = some (.slice aD ps.length cD)) (f := 11) (by kernel_rfl) ?_
      refine wpAnyL_take (i := 0) (some 129) (v := .pointer (some ⟨w1.heap.size, 6, none⟩)) rfl rfl (by kernel_rfl) (by kernel_rfl) (by kernel_rfl) (by kernel_rfl) (fun _ _ _ h => h) (by rfl) (fun W hS => ?_) HS0 ?_
      · go_simp
      try simp only [Act.put, List.setIfInBounds_toArray, List.set_cons_zero, List.set_cons_succ]
      refine wpAnyL_take (i := 1) (some 130) (v := .slice aD ps.length cD) rfl rfl (by kernel_rfl) (by kernel_rfl) (by kernel_rfl) (by kernel_rfl) (fun _ _ _ h => h) (by rfl) (fun W hS => ?_) HS0 ?_
      · go_simp
      try simp only [Act.put, List.setIfInBounds_toArray, List.set_cons_zero, List.set_cons_succ]
      refine wpAnyL_take (i := 2) (some 131) (v := .string ⟨a.toArray⟩) rfl rfl (by kernel_rfl) (by kernel_rfl) (by kernel_rfl) (by kernel_rfl) (fun _ _ _ h => h) (by rfl) (fun W hS => ?_) HS0 ?_
      · go_simp
      try simp only [Act.put, List.setIfInBounds_toArray, List.set_cons_zero, List.set_cons_succ]
      refine wpAnyL_take (i := 5) (some 134) (v := .pointer (some ⟨w1.heap.size, 6, none⟩)) rfl rfl (by kernel_rfl) (by kernel_rfl) (by kernel_rfl) (by kernel_rfl) (fun _ _ _ h => h) (by rfl) (fun W hS => ?_) HS0 ?_
      · go_simp
      try simp only [Act.put, List.setIfInBounds_toArray, List.set_cons_zero, List.set_cons_succ]
      refine wpAnyL_take (i := 6) (some 135) (v := .slice aD ps.length cD) rfl rfl (by kernel_rfl) (by kernel_rfl) (by kernel_rfl) (by kernel_rfl) (fun _ _ _ h => h) (by rfl) (fun W hS => ?_) HS0 ?_
      · go_simp
      try simp only [Act.put, List.setIfInBounds_toArray, List.set_cons_zero, List.set_cons_succ]
      refine wpAnyL_take (i := 7) (some 136) (v := .string ⟨b.toArray⟩) rfl rfl (by kernel_rfl) (by kernel_rfl) (by kernel_rfl) (by kernel_rfl) (fun _ _ _ h => h) (by rfl) (fun W hS => ?_) HS0 ?_
      · go_simp
      try simp only [Act.put, List.setIfInBounds_toArray, List.set_cons_zero, List.set_cons_succ]
      refine wpAnyL_one (j := 3) (by kernel_rfl) rfl (by rfl) (fun K hK => ?_)
      go_simp
      with_reducible refine (HRA.out _ HBq.out).mono ?_
      rintro e v1 ⟨k', s', aF, nF, cF, aL, nL, cL, z', rfl, hb⟩
      have HBv1 := Lib.hid (HBq.out.trans (hb.mono HBq.out.size))
      have HS1 := (hb.cell (World.block_lt_of_cell? _ _ HS0)).trans HS0
      clear hb
      refine hK _ _ (fun _ => HS1) ?_
      clear hK K
      try simp only [Act.put, List.setIfInBounds_toArray, List.set_cons_zero, List.set_cons_succ]
      have hfd : ∀ W : World, (Instr.field 75 (.agg #[.int .i64 k', .string ⟨List.toArray s'⟩, .slice aF nF cF, .slice aL nL cL, .int .i64 z', .bool ya]) 1).run Tryd.prog W = .ok (.bool ya) W := fun W => got_field k' s' aF nF cF aL nL cL z' ya W
      refine wpAnyL_take (i := 4) (some 133) (v := .bool ya) rfl rfl (by kernel_rfl) (by kernel_rfl) (by kernel_rfl) (by kernel_rfl) (fun _ _ _ h => h) (by rfl) (fun W hS => ?_) HS1 ?_
      · go_simp
      try simp only [Act.put, List.setIfInBounds_toArray, List.set_cons_zero, List.set_cons_succ]
      refine wpAnyL_one (j := 8) (by kernel_rfl) rfl (by rfl) (fun K hK => ?_)
      go_simp
      with_reducible refine (HRB.out _ HBv1.out).mono ?_
      rintro e v2 ⟨k2, s2, aF2, nF2, cF2, aL2, nL2, cL2, z2, rfl, hb⟩
      have HBv2 := Lib.hid (HBv1.out.trans (hb.mono HBv1.out.size))
      have HS2 := (hb.cell (World.block_lt_of_cell? _ _ HS1)).trans HS1
      clear hb
      refine hK _ _ (fun _ => HS2) ?_
      clear hK K
      try simp only [Act.put, List.setIfInBounds_toArray, List.set_cons_zero, List.set_cons_succ]
      have hfd2 : ∀ W : World, (Instr.field 75 (.agg #[.int .i64 k2, .string ⟨List.toArray s2⟩, .slice aF2 nF2 cF2, .slice aL2 nL2 cL2, .int .i64 z2, .bool yb]) 1).run Tryd.prog W = .ok (.bool yb) W := fun W => got_field k2 s2 aF2 nF2 cF2 aL2 nL2 cL2 z2 yb W
      refine wpAnyL_take (i := 9) (some 138) (v := .bool yb) rfl rfl (by kernel_rfl) (by kernel_rfl) (by kernel_rfl) (by kernel_rfl) (fun _ _ _ h => h) (by rfl) (fun W hS => ?_) HS2 ?_
      · go_simp
      try simp only [Act.put, List.setIfInBounds_toArray, List.set_cons_zero, List.set_cons_succ]
      refine wpAnyL_one (j := 10) (by kernel_rfl) rfl (by rfl) (fun K hK => ?_)
      go_simp
      refine hK _ _ (fun _ => HS2) ?_
      clear hK K
      try simp only [Act.put, List.setIfInBounds_toArray, List.set_cons_zero, List.set_cons_succ]
      refine wpAnyL_one (j := 11) (by kernel_rfl) rfl (by rfl) (fun K hK => ?_)
      go_simp
      refine hK _ _ (fun h => (h rfl).elim) ?_
      clear hK K
      try simp only [Act.put, List.setIfInBounds_toArray, List.set_cons_zero, List.set_cons_succ]
      refine wpAnyL_done (by kernel_rfl) ?_ _
      clear hfd hfd2 HS0 HS1 HS2
      go_wp2_with fail
      refine (HRD.out _ HBv2.out).mono ?_
      rintro e w6 ⟨W', x', y', hr, rfl, hb⟩
      have HB6 := Lib.hid (HB5.out.trans ((HBv2.out.trans (hb.mono HBv2.out.size)).mono HB5.out.size))
      clear hb
      cases ya with
      | true =>
        cases yb with
        | true =>
          have hDe : (D == []) = true := by rw [HD2.out]; rfl
          go_wp2_with fail
          refine (HA.out _ HB6.out).mono ?_
          rintro e w7 ⟨rfl, hb⟩
          have HB7 := Lib.hid (HB6.out.trans (hb.mono HB6.out.size))
          clear hb
          go_wp2_with fail
          go_ret
          exact ⟨rfl, HB7.out⟩
        | false =>
          have hDe : (D == [84, 82, 89, 65, 71, 65, 73, 78]) = true := by rw [HD2.out]; rfl
          go_wp2_with fail
          refine (HA.out _ HB6.out).mono ?_
          rintro e w7 ⟨rfl, hb⟩
          have HB7 := Lib.hid (HB6.out.trans (hb.mono HB6.out.size))
          clear hb
          go_wp2_with fail
          go_ret
          exact ⟨rfl, HB7.out⟩
      | false =>
        cases yb with
        | true =>
          have hDe : (D == [84, 82, 89, 65, 71, 65, 73, 78]) = true := by rw [HD2.out]; rfl
          go_wp2_with fail
          refine (HA.out _ HB6.out).mono ?_
          rintro e w7 ⟨rfl, hb⟩
          have HB7 := Lib.hid (HB6.out.trans (hb.mono HB6.out.size))
          clear hb
          go_wp2_with fail
          go_ret
          exact ⟨rfl, HB7.out⟩
        | false =>
          have hDz : D = Rt.redir Rt.ask (x : Int) 1 := by rw [HD2.out]; rfl
          rw [hDz] at hr
          obtain ⟨rfl, rfl, rfl⟩ := Rt.read_to hxl (n := 1) (by decide) (.inr rfl) hr
          have k1 : (Rt.ask == [65, 83, 75]) = true := rfl
          have k2 : ((x : Int) == (x : Int)) = true := by simp
          clear hr hDz
          unfold Rt.ask
          go_wp2_with fail
          refine (HA.out _ HB6.out).mono ?_
          rintro e w7 ⟨rfl, hb⟩
          have HB7 := Lib.hid (HB6.out.trans (hb.mono HB6.out.size))
          clear hb
          go_wp2_with fail
          go_ret
          exact ⟨rfl, HB7.out⟩
    · have hD2 : D = if q = -1 ∧ asking = true then [] else Rt.redir Rt.mvd (x : Int) 7 := by
        rw [← hD]; exact Rt.pc3 i q hasf _ HSAME.out HX.out hn asking
      have hlD : D.length ≤ 60 := by
        rw [hD2]; split
        · simp
        · exact hlRa
      have HRD : Hid (Calls Tryd.prog 14 #[.string ⟨D.toArray⟩] w5 fun e w' => ∃ W' x' y', Rt.ReadOf D W' x' y' ∧ e = .returned (.tuple #[.string ⟨W'.toArray⟩, .int .i64 x', .int .i64 y']) ∧ Below w5.heap.size w5 w') := Lib.hid (read_any D w5 (HE.out.later HB5.out) (by omega))
      have HD2 := Lib.hid hD2
      clear hD hD2 hlRb
      by_cases c7 : i = 7
      · have e1 : (i != 7) = false := by rw [c7]; rfl
        have c1 : q ≠ -1 := fun h => hn ⟨h, c7.symm⟩
        have e2 : (q != -1) = true := by rw [bne_iff_ne]; exact c1
        have e2b : (q == -1) = false := by rw [beq_eq_false_iff_ne]; exact c1
        have HZ := Lib.hid (show D = Rt.redir Rt.mvd (x : Int) 7 by rw [HD2.out, if_neg (fun h => c1 h.1)])
        clear c1 c7 hn
        go_wp2_with fail
        refine (HRD.out).mono ?_
        rintro e w6 ⟨W', x', y', hr, rfl, hb⟩
        rw [HZ.out] at hr
        obtain ⟨rfl, rfl, rfl⟩ := Rt.read_to hxl (n := 7) (by decide) (.inl rfl) hr
        have HB6 := Lib.hid (HB5.out.trans (hb.mono HB5.out.size))
        obtain ⟨v2, v2', -⟩ := (HX5.out.later hb HX5.out.lt).few
        have k1 : (Rt.mvd == [77, 79, 86, 69, 68]) = true := rfl
        have k2 : ((x : Int) == (x : Int)) = true := by simp
        clear hb hr
        unfold Rt.mvd
        go_wp2_with fail
        refine (HA.out _ HB6.out).mono ?_
        rintro e w7 ⟨rfl, hb⟩
        have HB7 := Lib.hid (HB6.out.trans (hb.mono HB6.out.size))
        clear hb
        go_wp2_with fail
        go_ret
        exact ⟨rfl, HB7.out⟩
      · have e1 : (i != 7) = true := by rw [bne_iff_ne]; exact c7
        by_cases c1 : q = -1
        · have e2b : (q == -1) = true := by rw [c1]; rfl
          cases asking with
          | true =>
            have HZ := Lib.hid (show D = [] by rw [HD2.out, if_pos ⟨c1, rfl⟩])
            have hDe : (D == []) = true := by rw [HZ.out]; rfl
            clear c1 c7 hn
            go_wp2_with fail
            refine (HRD.out).mono ?_
            rintro e w6 ⟨W', x', y', hr, rfl, hb⟩
            have HB6 := Lib.hid (HB5.out.trans (hb.mono HB5.out.size))
            obtain ⟨v2, v2', -⟩ := (HX5.out.later hb HX5.out.lt).few
            clear hb hr
            go_wp2_with fail
            refine (HA.out _ HB6.out).mono ?_
            rintro e w7 ⟨rfl, hb⟩
            have HB7 := Lib.hid (HB6.out.trans (hb.mono HB6.out.size))
            clear hb
            go_wp2_with fail
            go_ret
            exact ⟨rfl, HB7.out⟩
          | false =>
            have HZ := Lib.hid (show D = Rt.redir Rt.mvd (x : Int) 7 by rw [HD2.out, if_neg (fun h => by cases h.2)])
            clear c1 c7 hn
            go_wp2_with fail
            refine (HRD.out).mono ?_
            rintro e w6 ⟨W', x', y', hr, rfl, hb⟩
            rw [HZ.out] at hr
            obtain ⟨rfl, rfl, rfl⟩ := Rt.read_to hxl (n := 7) (by decide) (.inl rfl) hr
            have HB6 := Lib.hid (HB5.out.trans (hb.mono HB5.out.size))
            obtain ⟨v2, v2', -⟩ := (HX5.out.later hb HX5.out.lt).few
            have k1 : (Rt.mvd == [77, 79, 86, 69, 68]) = true := rfl
            have k2 : ((x : Int) == (x : Int)) = true := by simp
            clear hb hr
            unfold Rt.mvd
            go_wp2_with fail
            refine (HA.out _ HB6.out).mono ?_
            rintro e w7 ⟨rfl, hb⟩
            have HB7 := Lib.hid (HB6.out.trans (hb.mono HB6.out.size))
            clear hb
            go_wp2_with fail
            go_ret
            exact ⟨rfl, HB7.out⟩
        · have e2b : (q == -1) = false := by rw [beq_eq_false_iff_ne]; exact c1
          have HZ := Lib.hid (show D = Rt.redir Rt.mvd (x : Int) 7 by rw [HD2.out, if_neg (fun h => c1 h.1)])
          clear c1 c7 hn
          go_wp2_with fail
          refine (HRD.out).mono ?_
          rintro e w6 ⟨W', x', y', hr, rfl, hb⟩
          rw [HZ.out] at hr
          obtain ⟨rfl, rfl, rfl⟩ := Rt.read_to hxl (n := 7) (by decide) (.inl rfl) hr
          have HB6 := Lib.hid (HB5.out.trans (hb.mono HB5.out.size))
          obtain ⟨v2, v2', -⟩ := (HX5.out.later hb HX5.out.lt).few
          have k1 : (Rt.mvd == [77, 79, 86, 69, 68]) = true := rfl
          have k2 : ((x : Int) == (x : Int)) = true := by simp
          clear hb hr
          unfold Rt.mvd
          go_wp2_with fail
          refine (HA.out _ HB6.out).mono ?_
          rintro e w7 ⟨rfl, hb⟩
          have HB7 := Lib.hid (HB6.out.trans (hb.mono HB6.out.size))
          clear hb
          go_wp2_with fail
          go_ret
          exact ⟨rfl, HB7.out⟩
  · have hxy' : ((x : Int) != (y : Int)) = true := by rw [bne_iff_ne]; omega
    obtain ⟨wD, hwD⟩ : ∃ wD, wC.alloc (.cells #[.string ⟨a.toArray⟩, .string ⟨b.toArray⟩] 9) = wD := ⟨_, rfl⟩
    have hgD : wD.heap[wC.heap.size]? = some (.cells #[.string ⟨a.toArray⟩, .string ⟨b.toArray⟩] 9 (0, 0)) := by rw [← hwD]; exact World.alloc_heap_new wC _
    have hbD : Below wC.heap.size wC wD := by rw [← hwD]; exact (Below.refl _ wC).alloc (Nat.le_refl _) _
    have HND : Hid (∀ W, Below w1.heap.size w1 W → Node W n0 ⟨i, q, [], fun k => (rawL ps k).isSome, []⟩ ps) := Lib.hid fun W hb => by
      rw [← HN0.out]
      exact { id := rfl, ms := rfl, idr := ⟨by show _ ≤ i; omega, by show i ≤ _; omega⟩, msr := ⟨by show _ ≤ q; omega, by show q ≤ _; omega⟩, cln := rfl, cl := cls_nil W, dbn := rfl, db := HP.out.later hb, has := rfl, mvn := rfl, mv := mvs_nil W }
    have hb1D := HBC1.out.trans (hbD.mono HBC1.out.size)
    have HBD := Lib.hid (HB1.out.trans (hb1D.mono HB1.out.size))
    have HXD := Lib.hid (HXC.out.later hbD HXC.out.lt)
    have HD1 : Hid (Calls Tryd.prog 12 #[.agg n0.cells, .slice (some ⟨wC.heap.size, 0, none⟩) 2 2, .bool asking] wD fun e w' => e = .returned (.string ⟨#[67, 82, 79, 83, 83, 83, 76, 79, 84]⟩) ∧ Below wD.heap.size wD w') := Lib.hid (by
      have h := HDEC.out wD n0 _ (some ⟨wC.heap.size, 0, none⟩) 2 [a, b] HBD.out (HND.out wD hb1D) (by simp) trivial (wds_two ha hb0 hgD) (by simp)
      rw [Rt.pc1 _ (by rw [HX.out, HY.out]; exact hxy)] at h
      exact h)
    have HB1D := Lib.hid hb1D
    clear hgD hbD hb1D hxy
    go_wp2_with (first | (refine wpList_load_row rfl 36 (.tmp 13) rfl w1.heap.size rfl 36 n0.cells (0, 0) _ HXC.out Tryd.underlying36 rfl (by kernel_rfl) ?_) | (refine wpList_load_rowG (by rfl) 36 (.tmp 13) rfl w1.heap.size rfl 36 n0.cells (0, 0) _ HXC.out Tryd.underlying36 rfl (by kernel_rfl) ?_) | (refine wpList_load_row rfl 36 (.tmp 13) rfl w1.heap.size rfl 36 n0.cells (0, 0) _ HXD.out Tryd.underlying36 rfl (by kernel_rfl) ?_) | (refine wpList_load_rowG (by rfl) 36 (.tmp 13) rfl w1.heap.size rfl 36 n0.cells (0, 0) _ HXD.out Tryd.underlying36 rfl (by kernel_rfl) ?_))
    refine (HD1.out).mono ?_
    rintro e w3 ⟨rfl, hb⟩
    have HB3 := Lib.hid (HB1D.out.trans (hb.mono HB1D.out.size))
    have HX3 := Lib.hid (HXD.out.later hb HXD.out.lt)
    clear hb hwD
    obtain ⟨wF, hwF⟩ : ∃ wF, w3.alloc (.cells #[.string ⟨b.toArray⟩] 9) = wF := ⟨_, rfl⟩
    have hwK : Wds wF (some ⟨w3.heap.size, 0, none⟩) 1 [b] := by rw [← hwF]; exact wds_lit w3 b hb0
    have hbF : Below w3.heap.size w3 wF := by rw [← hwF]; exact (Below.refl _ w3).alloc (Nat.le_refl _) _
    have HBF1 := Lib.hid (HB3.out.trans (hbF.mono HB3.out.size))
    have HBF := Lib.hid (HB1.out.trans (HBF1.out.mono HB1.out.size))
    have HXF := Lib.hid (HX3.out.later hbF HX3.out.lt)
    have HD2 : Hid (Calls Tryd.prog 12 #[.agg n0.cells, .slice (some ⟨w3.heap.size, 0, none⟩) 1 1, .bool asking] wF fun e w' => e = .returned (.string ⟨#[67, 76, 85, 83, 84, 69, 82, 68, 79, 87, 78]⟩) ∧ Below wF.heap.size wF w') := Lib.hid (by
      have h := HDEC.out wF n0 _ (some ⟨w3.heap.size, 0, none⟩) 1 [b] HBF.out (HND.out wF HBF1.out) (by simp) trivial hwK (by simp)
      rw [Rt.pc2] at h
      exact h)
    clear hbF hwK
    go_wp2_with (first | (refine wpList_load_row rfl 36 (.tmp 13) rfl w1.heap.size rfl 36 n0.cells (0, 0) _ HX3.out Tryd.underlying36 rfl (by kernel_rfl) ?_) | (refine wpList_load_rowG (by rfl) 36 (.tmp 13) rfl w1.heap.size rfl 36 n0.cells (0, 0) _ HX3.out Tryd.underlying36 rfl (by kernel_rfl) ?_) | (refine wpList_load_row rfl 36 (.tmp 13) rfl w1.heap.size rfl 36 n0.cells (0, 0) _ HXF.out Tryd.underlying36 rfl (by kernel_rfl) ?_) | (refine wpList_load_rowG (by rfl) 36 (.tmp 13) rfl w1.heap.size rfl 36 n0.cells (0, 0) _ HXF.out Tryd.underlying36 rfl (by kernel_rfl) ?_))
    refine (HD2.out).mono ?_
    rintro e w4 ⟨rfl, hb⟩
    have HB4 := Lib.hid (HBF.out.trans (hb.mono HBF.out.size))
    clear hb
    go_wp2_with fail
    refine (HA.out _ HB4.out).mono ?_
    rintro e w5 ⟨rfl, hb⟩
    have HB5 := Lib.hid (HB4.out.trans (hb.mono HB4.out.size))
    clear hb
    go_wp2_with fail
    go_ret
    exact ⟨rfl, HB5.out⟩
end Go.Proofs.YtahmddopbmjepaaDoor
