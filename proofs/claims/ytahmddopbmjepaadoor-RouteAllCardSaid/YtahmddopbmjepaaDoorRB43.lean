/- An argument of type api.Node, opened. -/
import Derived.Test.YtahmddopbmjepaaDoorRB13
import Derived.Test.YtahmddopbmjepaaDoorRB41
import Derived.Test.YtahmddopbmjepaaDoorRB42
namespace Go.Proofs.YtahmddopbmjepaaDoor
open Go.ChangeShapes Go.WideShapes Go.ChangeAt Go.RowKit
open Go.Deep (hone_of)
set_option linter.unusedVariables false

section
variable {H : Type} {enc : TypeId × Value → H} {w : World} {base : Nat} {spare : Nat → Bool} {held : Bool}
/-- any slice. -/
theorem open_sv {t e : TypeId} (ht : Tryd.prog.underlying t = some (.slice e)) {fuel : Nat} {cs : List Value} {x : DataW H × List MemPlace} (h : DataW.trod enc Tryd.prog w base spare held fuel t cs = some x) : ∃ v : SV, cs = [.slice v.a v.n v.c] := by
  rcases DataW.trod_slice ht h with ⟨e3, -⟩ | ⟨a, len, cap, elems, rest, n', hn', e3, -⟩
  · exact ⟨⟨none, 0, 0⟩, e3⟩
  · exact ⟨⟨some a, len, cap⟩, e3⟩

set_option maxRecDepth 100000 in
/-- the cells of a move. -/
theorem open_mcells {fuel : Nat} {cs : List Value} {x : DataW H × List MemPlace} (h : DataW.trod enc Tryd.prog w base spare held fuel 61 cs = some x) : ∃ q : Rt.Mv, cs = q.cs ∧ q.Ok := by
  have hM : maxLen = 9223372036854775807 := by decide
  obtain ⟨ys, n, hn, hx, hlen, hyl, hg⟩ := DataW.trod_struct Tryd.underlying61 h
  have hC : Tryd.prog.cellsOf 61 = 4 := by kernel_rfl
  rw [hC] at hlen
  have k1 : Tryd.prog.cellsOf 3 = 1 := by kernel_rfl
  have k2 : Tryd.prog.cellsOf 9 = 1 := by kernel_rfl
  match cs, hlen with
  | [c0, c1, c2, c3], _ =>
  match ys, hyl with
  | [y0, y1, y2, y3], _ =>
    have t0 : DataW.trod enc Tryd.prog w base spare held n 3 [c0] = some y0 := by simpa [k1] using hg 0 _ rfl
    have t1 : DataW.trod enc Tryd.prog w base spare held n 3 [c1] = some y1 := by simpa [k1] using hg 1 _ rfl
    have t2 : DataW.trod enc Tryd.prog w base spare held n 3 [c2] = some y2 := by simpa [k1] using hg 2 _ rfl
    have t3 : DataW.trod enc Tryd.prog w base spare held n 9 [c3] = some y3 := by simpa [k1, k2] using hg 3 _ rfl
    obtain ⟨z0, e0, -, w0⟩ := DataW.trod_int Tryd.underlying3 t0
    obtain ⟨z1, e1, -, w1⟩ := DataW.trod_int Tryd.underlying3 t1
    obtain ⟨z2, e2, -, w2⟩ := DataW.trod_int Tryd.underlying3 t2
    obtain ⟨z3, e3, -, w3⟩ := DataW.trod_string Tryd.underlying9 t3
    simp only [List.cons.injEq, and_true] at e0 e1 e2 e3
    subst e0 e1 e2 e3
    exact ⟨⟨z0, z1, z2, z3.data.toList⟩, by unfold Rt.Mv.cs; rw [mk_of], lw_wf w0, lw_wf w1, lw_wf w2, by show z3.data.toList.length ≤ _; rw [len_of]; omega⟩

set_option maxRecDepth 100000 in
/-- a slice of them. -/
theorem open_moves {fuel : Nat} {cs : List Value} {x : DataW H × List MemPlace} (h : DataW.trod enc Tryd.prog w base spare held fuel 24 cs = some x) : ∃ (a : Option Addr) (cap : Nat) (ps : List Rt.Mv), cs = [.slice a ps.length cap] ∧ Mvs w a cap ps := by
  have hM : maxLen = 9223372036854775807 := by decide
  have hC : Tryd.prog.cellsOf 61 = 4 := by kernel_rfl
  rcases DataW.trod_slice Tryd.underlying24 h with ⟨e3, -⟩ | ⟨a, len, cap, elems, rest, n', hn', e3, hx3, hb, hl, hcm, hel0, hel1, -, -⟩
  · exact ⟨none, 0, [], e3, mvs_nil w⟩
  · rcases Nat.eq_zero_or_pos len with rfl | hpos
    · exact ⟨some a, cap, [], e3, ⟨⟨Nat.zero_le _, by omega, .inl rfl⟩, by simp⟩⟩
    have hel : ∀ i, i < len → ∃ q : Rt.Mv, (∀ j, j < 4 → w.cell? ((a.add (i * 4)).add j) = q.cs[j]?) ∧ q.Ok := by
      intro i hil
      have he := hel1 i hil
      rw [List.getElem?_eq_getElem (by omega)] at he
      obtain ⟨cs', hc, ht'⟩ := Option.bind_eq_some_iff.1 he
      rw [hC] at hc
      obtain ⟨_, hcl, hat⟩ := World.cells?_some hc
      obtain ⟨q, rfl, hq⟩ := open_mcells ht'
      exact ⟨q, fun j hj => hat j hj, hq⟩
    obtain ⟨b, off, spot⟩ := a
    have hspot : spot = none := by
      obtain ⟨q, c0, -⟩ := hel 0 hpos
      have h1 := c0 0 (by decide)
      have h2 : w.cell? (((⟨b, off, spot⟩ : Addr).add (0 * 4)).add 0) = some (.int .i64 q.s) := h1.trans rfl
      simpa [Addr.add] using World.cell?_spot h2
    subst hspot
    have hadd : ∀ i j, ((⟨b, off, none⟩ : Addr).add (i * 4)).add j = ⟨b, off + i * 4 + j, none⟩ := fun i j => by rw [add_none, add_none]
    obtain ⟨ps, hll, hlp⟩ := list_of Rt.Mv.zero (fun i q => (∀ j, j < 4 → w.cell? ⟨b, off + i * 4 + j, none⟩ = q.cs[j]?) ∧ q.Ok) len (fun i hil => by
      obtain ⟨q, c0, hq⟩ := hel i hil
      exact ⟨q, fun j hj => by rw [← hadd]; exact c0 j hj, hq⟩)
    have hbl : b < w.heap.size := by
      have h1 := (hlp 0 hpos).1 0 (by decide)
      exact World.block_lt_of_cell? w _ (h1.trans rfl)
    refine ⟨some ⟨b, off, none⟩, cap, ps, by rw [hll]; exact e3, ⟨⟨by rw [List.length_map]; omega, by omega, .inr ⟨b, off, rfl, hbl, fun k hk j hj => ?_⟩⟩, fun q hq => ?_⟩⟩
    · rw [List.length_map] at hk
      rw [(hlp k (by omega)).1 j hj, map_getD Rt.Mv.cs ps Rt.Mv.zero [] hk]
    · obtain ⟨i, hi, rfl⟩ := List.getElem_of_mem hq
      have := (hlp i (by omega)).2
      rwa [getD_eq hi] at this

set_option maxRecDepth 100000 in
theorem open_rid {fuel : Nat} {cs : List Value} {x : DataW H × List MemPlace} (h : DataW.trod enc Tryd.prog w base spare held fuel 27 cs = some x) : ∃ a b : Int, cs = [.int .i64 a, .int .i64 b] := by
  obtain ⟨ys, n, hn, hx, hlen, hyl, hg⟩ := DataW.trod_struct Tryd.underlying27 h
  have hC : Tryd.prog.cellsOf 27 = 2 := by kernel_rfl
  rw [hC] at hlen
  have k1 : Tryd.prog.cellsOf 3 = 1 := by kernel_rfl
  match cs, hlen with
  | [c0, c1], _ =>
  match ys, hyl with
  | [y0, y1], _ =>
    have t0 : DataW.trod enc Tryd.prog w base spare held n 3 [c0] = some y0 := by simpa [k1] using hg 0 _ rfl
    have t1 : DataW.trod enc Tryd.prog w base spare held n 3 [c1] = some y1 := by simpa [k1] using hg 1 _ rfl
    obtain ⟨z0, e0, -, w0⟩ := DataW.trod_int Tryd.underlying3 t0
    obtain ⟨z1, e1, -, w1⟩ := DataW.trod_int Tryd.underlying3 t1
    simp only [List.cons.injEq, and_true] at e0 e1
    subst e0 e1
    exact ⟨z0, z1, rfl⟩

set_option maxRecDepth 100000 in
theorem open_watch {fuel : Nat} {cs : List Value} {x : DataW H × List MemPlace} (h : DataW.trod enc Tryd.prog w base spare held fuel 34 cs = some x) : ∃ a b : SV, cs = [.slice a.a a.n a.c, .slice b.a b.n b.c] := by
  obtain ⟨ys, n, hn, hx, hlen, hyl, hg⟩ := DataW.trod_struct Tryd.underlying34 h
  have hC : Tryd.prog.cellsOf 34 = 2 := by kernel_rfl
  rw [hC] at hlen
  have k1 : Tryd.prog.cellsOf 31 = 1 := by kernel_rfl
  have k2 : Tryd.prog.cellsOf 32 = 1 := by kernel_rfl
  match cs, hlen with
  | [c0, c1], _ =>
  match ys, hyl with
  | [y0, y1], _ =>
    have t0 : DataW.trod enc Tryd.prog w base spare held n 31 [c0] = some y0 := by simpa [k1, k2] using hg 0 _ rfl
    have t1 : DataW.trod enc Tryd.prog w base spare held n 32 [c1] = some y1 := by simpa [k1, k2] using hg 1 _ rfl
    obtain ⟨z0, e0⟩ := open_sv Tryd.underlying31 t0
    obtain ⟨z1, e1⟩ := open_sv Tryd.underlying32 t1
    simp only [List.cons.injEq, and_true] at e0 e1
    subst e0 e1
    exact ⟨z0, z1, rfl⟩

set_option maxRecDepth 100000 in
theorem open_feed {fuel : Nat} {cs : List Value} {x : DataW H × List MemPlace} (h : DataW.trod enc Tryd.prog w base spare held fuel 30 cs = some x) : ∃ (f0 f1 f2 : Int) (b : SV) (f4 f5 f6 : Int), cs = [.int .i64 f0, .int .i64 f1, .int .i64 f2, .slice b.a b.n b.c, .int .i64 f4, .int .i64 f5, .int .i64 f6] := by
  obtain ⟨ys, n, hn, hx, hlen, hyl, hg⟩ := DataW.trod_struct Tryd.underlying30 h
  have hC : Tryd.prog.cellsOf 30 = 7 := by kernel_rfl
  rw [hC] at hlen
  have k1 : Tryd.prog.cellsOf 3 = 1 := by kernel_rfl
  have k2 : Tryd.prog.cellsOf 28 = 1 := by kernel_rfl
  have k3 : Tryd.prog.cellsOf 27 = 2 := by kernel_rfl
  match cs, hlen with
  | [c0, c1, c2, c3, c4, c5, c6], _ =>
  match ys, hyl with
  | [y0, y1, y2, y3, y4], _ =>
    have t0 : DataW.trod enc Tryd.prog w base spare held n 27 [c0, c1] = some y0 := by simpa [k1, k2, k3] using hg 0 _ rfl
    have t1 : DataW.trod enc Tryd.prog w base spare held n 3 [c2] = some y1 := by simpa [k1, k2, k3] using hg 1 _ rfl
    have t2 : DataW.trod enc Tryd.prog w base spare held n 28 [c3] = some y2 := by simpa [k1, k2, k3] using hg 2 _ rfl
    have t3 : DataW.trod enc Tryd.prog w base spare held n 27 [c4, c5] = some y3 := by simpa [k1, k2, k3] using hg 3 _ rfl
    have t4 : DataW.trod enc Tryd.prog w base spare held n 3 [c6] = some y4 := by simpa [k1, k2, k3] using hg 4 _ rfl
    obtain ⟨a0, a1, e0⟩ := open_rid t0
    obtain ⟨z1, e1, -, w1⟩ := DataW.trod_int Tryd.underlying3 t1
    obtain ⟨z2, e2⟩ := open_sv Tryd.underlying28 t2
    obtain ⟨a4, a5, e3⟩ := open_rid t3
    obtain ⟨z4, e4, -, w4⟩ := DataW.trod_int Tryd.underlying3 t4
    simp only [List.cons.injEq, and_true] at e0 e1 e2 e3 e4
    obtain ⟨rfl, rfl⟩ := e0
    obtain ⟨rfl, rfl⟩ := e3
    subst e1 e2 e4
    exact ⟨a0, a1, z1, z2, a4, a5, z4, rfl⟩
end

theorem list22 (l : List Value) (h : l.length = 22) : ∃ c0 c1 c2 c3 c4 c5 c6 c7 c8 c9 c10 c11 c12 c13 c14 c15 c16 c17 c18 c19 c20 c21, l = [c0, c1, c2, c3, c4, c5, c6, c7, c8, c9, c10, c11, c12, c13, c14, c15, c16, c17, c18, c19, c20, c21] := by
  match l, h with
  | [c0, c1, c2, c3, c4, c5, c6, c7, c8, c9, c10, c11, c12, c13, c14, c15, c16, c17, c18, c19, c20, c21], _ => exact ⟨c0, c1, c2, c3, c4, c5, c6, c7, c8, c9, c10, c11, c12, c13, c14, c15, c16, c17, c18, c19, c20, c21, rfl⟩
theorem list15 {α : Type} (l : List α) (h : l.length = 15) : ∃ y0 y1 y2 y3 y4 y5 y6 y7 y8 y9 y10 y11 y12 y13 y14, l = [y0, y1, y2, y3, y4, y5, y6, y7, y8, y9, y10, y11, y12, y13, y14] := by
  match l, h with
  | [y0, y1, y2, y3, y4, y5, y6, y7, y8, y9, y10, y11, y12, y13, y14], _ => exact ⟨y0, y1, y2, y3, y4, y5, y6, y7, y8, y9, y10, y11, y12, y13, y14, rfl⟩

set_option maxRecDepth 100000 in
set_option maxHeartbeats 4000000 in
/-- a node. -/
theorem open_node {H : Type} {enc : TypeId × Value → H} {w : World} {base : Nat} {spare : Nat → Bool} {held : Bool} {r : Reach} {b0 : Nat} {v : Value} {d : DataW H} {p : List MemPlace}
    (hv : Value.okWide Tryd.prog w r b0 36 v) (h : DataW.Trod enc Tryd.prog w base spare held 36 v d p) :
    ∃ (n : NV) (cl : List Ow.C) (ps : List Lp) (mv : List Rt.Mv), v = .agg n.cells ∧ (-9223372036854775808 ≤ n.id ∧ n.id ≤ 9223372036854775807) ∧ (-9223372036854775808 ≤ n.ms ∧ n.ms ≤ 9223372036854775807) ∧
      n.cl.n = cl.length ∧ Cls w n.cl.a n.cl.c cl ∧ n.db.n = ps.length ∧ Prs w n.db.a n.db.c ps ∧ n.mv.n = mv.length ∧ Mvs w n.mv.a n.mv.c mv := by
  obtain ⟨cs, rfl, hsz⟩ := okWide_struct Tryd.underlying36 hv
  have hC : Tryd.prog.cellsOf 36 = 22 := by kernel_rfl
  rw [hC] at hsz
  obtain ⟨l⟩ := cs
  obtain ⟨c0, c1, c2, c3, c4, c5, c6, c7, c8, c9, c10, c11, c12, c13, c14, c15, c16, c17, c18, c19, c20, c21, rfl⟩ := list22 l (by simpa using hsz)
  obtain ⟨fuel, hf⟩ := h
  obtain ⟨xs, n, _, _, _, hlen, hg⟩ := DataW.trod_struct Tryd.underlying36 hf
  obtain ⟨y0, y1, y2, y3, y4, y5, y6, y7, y8, y9, y10, y11, y12, y13, y14, rfl⟩ := list15 xs (by simpa using hlen)
  have k0 : Tryd.prog.cellsOf 3 = 1 := by kernel_rfl
  have k1 : Tryd.prog.cellsOf 22 = 1 := by kernel_rfl
  have k2 : Tryd.prog.cellsOf 23 = 1 := by kernel_rfl
  have k3 : Tryd.prog.cellsOf 24 = 1 := by kernel_rfl
  have k4 : Tryd.prog.cellsOf 25 = 1 := by kernel_rfl
  have k5 : Tryd.prog.cellsOf 30 = 7 := by kernel_rfl
  have k6 : Tryd.prog.cellsOf 34 = 2 := by kernel_rfl
  have k7 : Tryd.prog.cellsOf 31 = 1 := by kernel_rfl
  have t0 : DataW.trod enc Tryd.prog w base spare held n 3 [c0] = some y0 := by simpa [k0, k1, k2, k3, k4, k5, k6, k7, Value.cells] using hg 0 _ rfl
  have t1 : DataW.trod enc Tryd.prog w base spare held n 3 [c1] = some y1 := by simpa [k0, k1, k2, k3, k4, k5, k6, k7, Value.cells] using hg 1 _ rfl
  have t2 : DataW.trod enc Tryd.prog w base spare held n 3 [c2] = some y2 := by simpa [k0, k1, k2, k3, k4, k5, k6, k7, Value.cells] using hg 2 _ rfl
  have t3 : DataW.trod enc Tryd.prog w base spare held n 3 [c3] = some y3 := by simpa [k0, k1, k2, k3, k4, k5, k6, k7, Value.cells] using hg 3 _ rfl
  have t4 : DataW.trod enc Tryd.prog w base spare held n 3 [c4] = some y4 := by simpa [k0, k1, k2, k3, k4, k5, k6, k7, Value.cells] using hg 4 _ rfl
  have t5 : DataW.trod enc Tryd.prog w base spare held n 22 [c5] = some y5 := by simpa [k0, k1, k2, k3, k4, k5, k6, k7, Value.cells] using hg 5 _ rfl
  have t6 : DataW.trod enc Tryd.prog w base spare held n 23 [c6] = some y6 := by simpa [k0, k1, k2, k3, k4, k5, k6, k7, Value.cells] using hg 6 _ rfl
  have t7 : DataW.trod enc Tryd.prog w base spare held n 24 [c7] = some y7 := by simpa [k0, k1, k2, k3, k4, k5, k6, k7, Value.cells] using hg 7 _ rfl
  have t8 : DataW.trod enc Tryd.prog w base spare held n 3 [c8] = some y8 := by simpa [k0, k1, k2, k3, k4, k5, k6, k7, Value.cells] using hg 8 _ rfl
  have t9 : DataW.trod enc Tryd.prog w base spare held n 25 [c9] = some y9 := by simpa [k0, k1, k2, k3, k4, k5, k6, k7, Value.cells] using hg 9 _ rfl
  have t10 : DataW.trod enc Tryd.prog w base spare held n 30 [c10, c11, c12, c13, c14, c15, c16] = some y10 := by simpa [k0, k1, k2, k3, k4, k5, k6, k7, Value.cells] using hg 10 _ rfl
  have t11 : DataW.trod enc Tryd.prog w base spare held n 34 [c17, c18] = some y11 := by simpa [k0, k1, k2, k3, k4, k5, k6, k7, Value.cells] using hg 11 _ rfl
  have t12 : DataW.trod enc Tryd.prog w base spare held n 3 [c19] = some y12 := by simpa [k0, k1, k2, k3, k4, k5, k6, k7, Value.cells] using hg 12 _ rfl
  have t13 : DataW.trod enc Tryd.prog w base spare held n 31 [c20] = some y13 := by simpa [k0, k1, k2, k3, k4, k5, k6, k7, Value.cells] using hg 13 _ rfl
  have t14 : DataW.trod enc Tryd.prog w base spare held n 3 [c21] = some y14 := by simpa [k0, k1, k2, k3, k4, k5, k6, k7, Value.cells] using hg 14 _ rfl
  obtain ⟨z0, e0, -, w0⟩ := DataW.trod_int Tryd.underlying3 t0
  simp only [List.cons.injEq, and_true] at e0
  subst e0
  obtain ⟨z1, e1, -, w1⟩ := DataW.trod_int Tryd.underlying3 t1
  simp only [List.cons.injEq, and_true] at e1
  subst e1
  obtain ⟨z2, e2, -, w2⟩ := DataW.trod_int Tryd.underlying3 t2
  simp only [List.cons.injEq, and_true] at e2
  subst e2
  obtain ⟨z3, e3, -, w3⟩ := DataW.trod_int Tryd.underlying3 t3
  simp only [List.cons.injEq, and_true] at e3
  subst e3
  obtain ⟨z4, e4, -, w4⟩ := DataW.trod_int Tryd.underlying3 t4
  simp only [List.cons.injEq, and_true] at e4
  subst e4
  obtain ⟨q5, e5⟩ := open_sv Tryd.underlying22 t5
  simp only [List.cons.injEq, and_true] at e5
  subst e5
  obtain ⟨cl, ncl, hcl⟩ := open_claims t5
  obtain ⟨aD, cD, ps, e6, hP, -⟩ := open_pairs t6
  simp only [List.cons.injEq, and_true] at e6
  subst e6
  obtain ⟨aM, cM, mv, e7, hM⟩ := open_moves t7
  simp only [List.cons.injEq, and_true] at e7
  subst e7
  obtain ⟨z8, e8, -, w8⟩ := DataW.trod_int Tryd.underlying3 t8
  simp only [List.cons.injEq, and_true] at e8
  subst e8
  obtain ⟨q9, e9⟩ := open_sv Tryd.underlying25 t9
  simp only [List.cons.injEq, and_true] at e9
  subst e9
  obtain ⟨f0, f1, f2, fb, f4, f5, f6, e10⟩ := open_feed t10
  simp only [List.cons.injEq, and_true] at e10
  obtain ⟨rfl, rfl, rfl, rfl, rfl, rfl, rfl⟩ := e10
  obtain ⟨wh, ws, e11⟩ := open_watch t11
  simp only [List.cons.injEq, and_true] at e11
  obtain ⟨rfl, rfl⟩ := e11
  obtain ⟨z12, e12, -, w12⟩ := DataW.trod_int Tryd.underlying3 t12
  simp only [List.cons.injEq, and_true] at e12
  subst e12
  obtain ⟨q13, e13⟩ := open_sv Tryd.underlying31 t13
  simp only [List.cons.injEq, and_true] at e13
  subst e13
  obtain ⟨z14, e14, -, w14⟩ := DataW.trod_int Tryd.underlying3 t14
  simp only [List.cons.injEq, and_true] at e14
  subst e14
  refine ⟨⟨z0, z1, z2, z3, z4, q5, ⟨aD, ps.length, cD⟩, ⟨aM, mv.length, cM⟩, z8, q9, f0, f1, f2, fb, f4, f5, f6, wh, ws, z12, q13, z14⟩, cl, ps, mv, rfl, lw_wf w1, lw_wf w2, ncl, hcl, rfl, hP, rfl, hM⟩
end Go.Proofs.YtahmddopbmjepaaDoor
