/- A law's argument of type api.Item, opened. A space that came in: the cells of a pair, a slice of pairs. What a number's or a text's form says of it. -/
import Derived.Test.YtahmddopbmjepaaDoorRB41
import Derived.Test.YtahmddopbmjepaaDoorRB09
import Derived.ProofKit
import Derived.SliceStrings
import Derived.Deep.Slices
import Derived.Deep.Fields
import Derived.ChangeSame
import Derived.Test.YtahmddopbmjepaaDoorRB10
import Derived.Deep.DeepHandedRow
import Derived.Test.YtahmddopbmjepaaDoorProg
namespace Go.Proofs.YtahmddopbmjepaaDoor
open Go.ChangeShapes Go.WideShapes Go.ChangeAt Go.RowKit
open Go.Deep (hone_of)

section
open Go.Deep
variable {H : Type} {enc : TypeId × Value → H} {P : Program} {w : World} {base : Nat} {spare : Nat → Bool} {held : Bool}
end

theorem add_none (b off j : Nat) : (Addr.add ⟨b, off, none⟩ j) = ⟨b, off + j, none⟩ := by
  unfold Addr.add
  split <;> first | omega | rfl | simp

/-- bytes of a text in memory. -/
theorem mk_of (s : ByteArray) : (⟨s.data.toList.toArray⟩ : ByteArray) = s := by
  apply ByteArray.ext
  simp
theorem len_of (s : ByteArray) : s.data.toList.length = s.size := Array.length_toList

/-- a slice of fields. -/
theorem open_fields {H : Type} {enc : TypeId × Value → H} {w : World} {base : Nat} {spare : Nat → Bool} {held : Bool} {fuel : Nat} {cs : List Value} {x : DataW H × List MemPlace}
    (h : DataW.trod enc Tryd.prog w base spare held fuel 66 cs = some x) : ∃ (a : Option Addr) (cap : Nat) (l : List (List UInt8 × List UInt8)), cs = [.slice a l.length cap] ∧ Fds w a cap l := by
  have hM : maxLen = 9223372036854775807 := by decide
  rcases open_slice_fields' Tryd.underlying66 Tryd.underlying106 (by kernel_rfl) (by kernel_rfl) h with rfl | ⟨x, len, c, m, rfl, hl, hm, hmm, hc⟩
  · exact ⟨none, 0, [], rfl, fds_nil w⟩
  · rcases Nat.eq_zero_or_pos len with rfl | hpos
    · exact ⟨some x, c, [], rfl, by simp, by omega, by simp, .inl rfl⟩
    have hcell : ∀ i, i < len → ∃ s : List UInt8 × List UInt8, w.cell? (x.add (i * 2)) = some (.string ⟨s.1.toArray⟩) ∧ w.cell? (x.add (i * 2 + 1)) = some (.string ⟨s.2.toArray⟩) ∧ s.1.length ≤ 9223372036854775807 ∧ s.2.length ≤ 9223372036854775807 := by
      intro i hi
      obtain ⟨v, y, n, c1, t1⟩ := hc i (by omega) 0 _ rfl
      obtain ⟨v', y', n', c2, t2⟩ := hc i (by omega) 1 _ rfl
      obtain ⟨z1, e1, -, w1⟩ := DataW.trod_string Tryd.underlying9 t1
      obtain ⟨z2, e2, -, w2⟩ := DataW.trod_string Tryd.underlying9 t2
      simp at e1 e2
      subst e1 e2
      refine ⟨(z1.data.toList, z2.data.toList), ?_, ?_, ?_, ?_⟩
      · rw [mk_of]; exact c1
      · rw [mk_of]; exact c2
      · rw [len_of]; omega
      · rw [len_of]; omega
    have hspot : x.spot = none := by
      obtain ⟨s, h1, -⟩ := hcell 0 hpos
      simpa [Addr.add] using World.cell?_spot h1
    obtain ⟨b, off, spot⟩ := x
    simp only at hspot
    subst hspot
    have hcell2 : ∀ i, i < len → ∃ s : List UInt8 × List UInt8, w.cell? ⟨b, off + i * 2, none⟩ = some (.string ⟨s.1.toArray⟩) ∧ w.cell? ⟨b, off + i * 2 + 1, none⟩ = some (.string ⟨s.2.toArray⟩) ∧ s.1.length ≤ 9223372036854775807 ∧ s.2.length ≤ 9223372036854775807 := by
      intro i hi
      obtain ⟨s, hs⟩ := hcell i hi
      rw [add_none, add_none] at hs
      exact ⟨s, hs⟩
    obtain ⟨ls, hlen, hf⟩ := list_of ([], []) _ len hcell2
    have hb : b < w.heap.size := by
      have h1 := (hf 0 hpos).1
      exact World.block_lt_of_cell? w _ h1
    refine ⟨some ⟨b, off, none⟩, c, ls, by rw [hlen], by omega, by omega, fun s hs => ?_, .inr ⟨b, off, rfl, hb, fun k hk => ?_⟩⟩
    · obtain ⟨i, hi, rfl⟩ := List.mem_iff_getElem.1 hs
      have := (hf i (by omega)).2.2
      rw [getD_eq hi] at this
      exact this
    · exact ⟨(hf k (by omega)).1, (hf k (by omega)).2.1⟩

/-- a slice of texts. -/
theorem open_words {H : Type} {enc : TypeId × Value → H} {w : World} {base : Nat} {spare : Nat → Bool} {held : Bool} {fuel : Nat} {cs : List Value} {x : DataW H × List MemPlace}
    (h : DataW.trod enc Tryd.prog w base spare held fuel 37 cs = some x) : ∃ (a : Option Addr) (cap : Nat) (l : List (List UInt8)), cs = [.slice a l.length cap] ∧ Wds w a cap l ∧ (a = none → cap = 0) := by
  have hM : maxLen = 9223372036854775807 := by decide
  rcases open_strings Tryd.underlying37 Tryd.underlying9 (by kernel_rfl) h with ⟨rfl, _⟩ | ⟨x, len, c, ss, rfl, _, hl, hm, hss, _, hc, hw⟩
  · exact ⟨none, 0, [], rfl, wds_nil w, fun _ => rfl⟩
  · have hsl : len ≤ ss.length := by rw [hss]; split <;> omega
    rcases Nat.eq_zero_or_pos len with rfl | hpos
    · exact ⟨some x, c, [], rfl, ⟨by simp, by omega, by simp, .inl rfl⟩, fun h => by cases h⟩
    have hspot : x.spot = none := by
      have h1 := hc 0 (by omega)
      simpa [Addr.add] using World.cell?_spot h1
    obtain ⟨b, off, spot⟩ := x
    simp only at hspot
    subst hspot
    have hb : b < w.heap.size := World.block_lt_of_cell? w _ (by have := hc 0 (by omega); rw [add_none] at this; exact this)
    refine ⟨some ⟨b, off, none⟩, c, (ss.take len).map (·.data.toList), by simp [Nat.min_eq_left hsl], ⟨by simp; omega, by omega, fun s hs => ?_, .inr ⟨b, off, rfl, hb, fun k hk => ?_⟩⟩, fun h => by cases h⟩
    · rw [List.mem_map] at hs
      obtain ⟨t, ht, rfl⟩ := hs
      have := hw t (List.mem_of_mem_take ht)
      rw [len_of]
      omega
    · simp only [List.length_map, List.length_take] at hk
      have h1 := hc k (by omega)
      rw [add_none] at h1
      rw [h1]
      simp only [List.getD, List.getElem?_map, List.getElem?_take, if_pos (show k < len by omega)]
      cases h : ss[k]? with
      | none => exact absurd (List.getElem?_eq_none_iff.1 h) (by omega)
      | some t => simp
set_option maxRecDepth 100000 in
/-- an item. -/
theorem open_item {H : Type} {enc : TypeId × Value → H} {w : World} {base : Nat} {spare : Nat → Bool} {held : Bool} {r : Reach} {b0 : Nat} {v : Value} {d : DataW H} {p : List MemPlace}
    (hv : Value.okWide Tryd.prog w r b0 68 v) (h : DataW.Trod enc Tryd.prog w base spare held 68 v d p) :
    ∃ (k x : Int) (s : List UInt8) (aF : Option Addr) (cF : Nat) (fs : List (List UInt8 × List UInt8)) (aL : Option Addr) (cL : Nat) (ws : List (List UInt8)), v = itv k s aF fs.length cF aL ws.length cL x ∧ Fds w aF cF fs ∧ Wds w aL cL ws ∧ s.length ≤ 9223372036854775807 ∧ (Lit.int .i64 k).wf = true ∧ (Lit.int .i64 x).wf = true ∧ (aL = none → cL = 0) := by
  have hM : maxLen = 9223372036854775807 := by decide
  obtain ⟨cs, rfl, hsz⟩ := okWide_struct Tryd.underlying68 hv
  have hC : Tryd.prog.cellsOf 68 = 5 := by kernel_rfl
  rw [hC] at hsz
  obtain ⟨l⟩ := cs
  match l, hsz with
  | [c0, c1, c2, c3, c4], _ =>
    obtain ⟨fuel, hf⟩ := h
    obtain ⟨xs, n, _, _, _, hlen, hg⟩ := DataW.trod_struct Tryd.underlying68 hf
    have k1 : Tryd.prog.cellsOf 3 = 1 := by kernel_rfl
    have k2 : Tryd.prog.cellsOf 9 = 1 := by kernel_rfl
    have k3 : Tryd.prog.cellsOf 66 = 1 := by kernel_rfl
    have k4 : Tryd.prog.cellsOf 37 = 1 := by kernel_rfl
    match xs, hlen with
    | [y0, y1, y2, y3, y4], _ =>
      have t0 : DataW.trod enc Tryd.prog w base spare held n 3 [c0] = some y0 := by simpa [Value.cells, k1] using hg 0 _ rfl
      have t1 : DataW.trod enc Tryd.prog w base spare held n 9 [c1] = some y1 := by simpa [Value.cells, k2] using hg 1 _ rfl
      have t2 : DataW.trod enc Tryd.prog w base spare held n 66 [c2] = some y2 := by simpa [Value.cells, k3] using hg 2 _ rfl
      have t3 : DataW.trod enc Tryd.prog w base spare held n 37 [c3] = some y3 := by simpa [Value.cells, k4] using hg 3 _ rfl
      have t4 : DataW.trod enc Tryd.prog w base spare held n 3 [c4] = some y4 := by simpa [Value.cells, k1] using hg 4 _ rfl
      obtain ⟨z0, e0, -, w0⟩ := DataW.trod_int Tryd.underlying3 t0
      obtain ⟨z1, e1, -, w1⟩ := DataW.trod_string Tryd.underlying9 t1
      obtain ⟨aF, cF, fs, e2, hF⟩ := open_fields t2
      obtain ⟨aL, cL, ws, e3, hL, hn⟩ := open_words t3
      obtain ⟨z4, e4, -, w4⟩ := DataW.trod_int Tryd.underlying3 t4
      simp only [List.cons.injEq, and_true] at e0 e1 e2 e3 e4
      subst e0 e1 e2 e3 e4
      refine ⟨z0, z4, z1.data.toList, aF, cF, fs, aL, cL, ws, ?_, hF, hL, by rw [len_of]; omega, w0, w4, hn⟩
      unfold itv
      rw [mk_of]
end Go.Proofs.YtahmddopbmjepaaDoor
namespace Go.Proofs.YtahmddopbmjepaaDoor
open Go.ChangeShapes Go.WideShapes Go.ChangeAt Go.RowKit
open Go.Deep (hone_of)
set_option linter.unusedVariables false

section
variable {H : Type} {enc : TypeId × Value → H} {w : World} {base : Nat} {spare : Nat → Bool} {held : Bool}
theorem open_fields2 {fuel : Nat} {cs : List Value} {x : DataW H × List MemPlace} (h : DataW.trod enc Tryd.prog w base spare held fuel 66 cs = some x) : ∃ (a : Option Addr) (cap : Nat) (l : List (List UInt8 × List UInt8)), cs = [.slice a l.length cap] ∧ Fds w a cap l ∧ (a = none → cap = 0) := by
  obtain ⟨a, cap, l, e, hF⟩ := open_fields h
  refine ⟨a, cap, l, e, hF, fun ha => ?_⟩
  rcases DataW.trod_slice Tryd.underlying66 h with ⟨e3, -⟩ | ⟨a', len, cap', elems, rest, n', hn', e3, -⟩
  · rw [e] at e3
    simp only [List.cons.injEq, and_true, Value.slice.injEq] at e3
    exact e3.2.2
  · rw [e, ha] at e3
    simp only [List.cons.injEq, and_true, Value.slice.injEq] at e3
    cases e3.1

set_option maxRecDepth 100000 in
/-- the cells of an item. -/
theorem open_icells {fuel : Nat} {cs : List Value} {x : DataW H × List MemPlace} (h : DataW.trod enc Tryd.prog w base spare held fuel 68 cs = some x) : ∃ q : Li, cs = q.cs ∧ q.Ok w := by
  have hM : maxLen = 9223372036854775807 := by decide
  obtain ⟨ys, n, hn, hx, hlen, hyl, hg⟩ := DataW.trod_struct Tryd.underlying68 h
  have hC : Tryd.prog.cellsOf 68 = 5 := by kernel_rfl
  rw [hC] at hlen
  have k1 : Tryd.prog.cellsOf 3 = 1 := by kernel_rfl
  have k2 : Tryd.prog.cellsOf 9 = 1 := by kernel_rfl
  have k3 : Tryd.prog.cellsOf 66 = 1 := by kernel_rfl
  have k4 : Tryd.prog.cellsOf 37 = 1 := by kernel_rfl
  match cs, hlen with
  | [c0, c1, c2, c3, c4], _ =>
  match ys, hyl with
  | [y0, y1, y2, y3, y4], _ =>
    have t0 : DataW.trod enc Tryd.prog w base spare held n 3 [c0] = some y0 := by simpa [k1] using hg 0 _ rfl
    have t1 : DataW.trod enc Tryd.prog w base spare held n 9 [c1] = some y1 := by simpa [k2] using hg 1 _ rfl
    have t2 : DataW.trod enc Tryd.prog w base spare held n 66 [c2] = some y2 := by simpa [k3] using hg 2 _ rfl
    have t3 : DataW.trod enc Tryd.prog w base spare held n 37 [c3] = some y3 := by simpa [k4] using hg 3 _ rfl
    have t4 : DataW.trod enc Tryd.prog w base spare held n 3 [c4] = some y4 := by simpa [k1] using hg 4 _ rfl
    obtain ⟨z0, e0, -, w0⟩ := DataW.trod_int Tryd.underlying3 t0
    obtain ⟨z1, e1, -, w1⟩ := DataW.trod_string Tryd.underlying9 t1
    obtain ⟨aF, cF, fs, e2, hF, hnF⟩ := open_fields2 t2
    obtain ⟨aL, cL, ws, e3, hL, hnL⟩ := open_words t3
    obtain ⟨z4, e4, -, w4⟩ := DataW.trod_int Tryd.underlying3 t4
    simp only [List.cons.injEq, and_true] at e0 e1 e2 e3 e4
    subst e0 e1 e2 e3 e4
    exact ⟨⟨z0, z1.data.toList, aF, fs, cF, aL, ws, cL, z4⟩, by unfold Li.cs; rw [mk_of], by show z1.data.toList.length ≤ _; rw [len_of]; omega, hF, hL, hnF, hnL⟩

set_option maxRecDepth 100000 in
/-- the cells of a pair. -/
theorem open_pcells {fuel : Nat} {cs : List Value} {x : DataW H × List MemPlace} (h : DataW.trod enc Tryd.prog w base spare held fuel 70 cs = some x) : ∃ q : Lp, cs = q.cs ∧ q.Ok w := by
  have hM : maxLen = 9223372036854775807 := by decide
  obtain ⟨ys, n, hn, hx, hlen, hyl, hg⟩ := DataW.trod_struct Tryd.underlying70 h
  have hC : Tryd.prog.cellsOf 70 = 6 := by kernel_rfl
  rw [hC] at hlen
  have k2 : Tryd.prog.cellsOf 9 = 1 := by kernel_rfl
  have k5 : Tryd.prog.cellsOf 68 = 5 := by kernel_rfl
  match cs, hlen with
  | [c0, c1, c2, c3, c4, c5], _ =>
  match ys, hyl with
  | [y0, y1], _ =>
    have t0 : DataW.trod enc Tryd.prog w base spare held n 9 [c0] = some y0 := by simpa [k2] using hg 0 _ rfl
    have t1 : DataW.trod enc Tryd.prog w base spare held n 68 [c1, c2, c3, c4, c5] = some y1 := by simpa [k2, k5] using hg 1 _ rfl
    obtain ⟨z0, e0, -, w0⟩ := DataW.trod_string Tryd.underlying9 t0
    obtain ⟨q, e1, hq⟩ := open_icells t1
    simp only [List.cons.injEq, and_true] at e0
    subst e0
    exact ⟨⟨z0.data.toList, q⟩, by unfold Lp.cs; rw [mk_of, ← e1], by show z0.data.toList.length ≤ _; rw [len_of]; omega, hq⟩

set_option maxRecDepth 100000 in
/-- a slice of them. -/
theorem open_pairs {fuel : Nat} {cs : List Value} {x : DataW H × List MemPlace} (h : DataW.trod enc Tryd.prog w base spare held fuel 23 cs = some x) : ∃ (a : Option Addr) (cap : Nat) (ps : List Lp), cs = [.slice a ps.length cap] ∧ Prs w a cap ps ∧ (a = none → cap = 0) := by
  have hM : maxLen = 9223372036854775807 := by decide
  have hC : Tryd.prog.cellsOf 70 = 6 := by kernel_rfl
  rcases DataW.trod_slice Tryd.underlying23 h with ⟨e3, -⟩ | ⟨a, len, cap, elems, rest, n', hn', e3, hx3, hb, hl, hcm, hel0, hel1, -, -⟩
  · exact ⟨none, 0, [], e3, ⟨RowsIn.nil 6 w, by simp⟩, fun _ => rfl⟩
  · rcases Nat.eq_zero_or_pos len with rfl | hpos
    · exact ⟨some a, cap, [], e3, ⟨⟨Nat.zero_le _, by omega, .inl rfl⟩, by simp⟩, fun e => by cases e⟩
    have hel : ∀ i, i < len → ∃ q : Lp, (∀ j, j < 6 → w.cell? ((a.add (i * 6)).add j) = q.cs[j]?) ∧ q.Ok w := by
      intro i hil
      have he := hel1 i hil
      rw [List.getElem?_eq_getElem (by omega)] at he
      obtain ⟨cs', hc, ht'⟩ := Option.bind_eq_some_iff.1 he
      rw [hC] at hc
      obtain ⟨_, hcl, hat⟩ := World.cells?_some hc
      obtain ⟨q, rfl, hq⟩ := open_pcells ht'
      exact ⟨q, fun j hj => hat j hj, hq⟩
    obtain ⟨b, off, spot⟩ := a
    have hspot : spot = none := by
      obtain ⟨q, c0, -⟩ := hel 0 hpos
      have h1 := c0 0 (by decide)
      have h2 : w.cell? (((⟨b, off, spot⟩ : Addr).add (0 * 6)).add 0) = some (.string ⟨q.key.toArray⟩) := h1.trans rfl
      simpa [Addr.add] using World.cell?_spot h2
    subst hspot
    have hadd : ∀ i j, ((⟨b, off, none⟩ : Addr).add (i * 6)).add j = ⟨b, off + i * 6 + j, none⟩ := fun i j => by rw [add_none, add_none]
    obtain ⟨ps, hll, hlp⟩ := list_of Lp.zero (fun i q => (∀ j, j < 6 → w.cell? ⟨b, off + i * 6 + j, none⟩ = q.cs[j]?) ∧ q.Ok w) len (fun i hil => by
      obtain ⟨q, c0, hq⟩ := hel i hil
      exact ⟨q, fun j hj => by rw [← hadd]; exact c0 j hj, hq⟩)
    have hbl : b < w.heap.size := by
      have h1 := (hlp 0 hpos).1 0 (by decide)
      exact World.block_lt_of_cell? w _ (h1.trans rfl)
    refine ⟨some ⟨b, off, none⟩, cap, ps, by rw [hll]; exact e3, ⟨⟨by rw [List.length_map]; omega, by omega, .inr ⟨b, off, rfl, hbl, fun k hk j hj => ?_⟩⟩, fun q hq => ?_⟩, fun e => by cases e⟩
    · rw [List.length_map] at hk
      rw [(hlp k (by omega)).1 j hj, map_getD Lp.cs ps Lp.zero [] hk]
    · obtain ⟨i, hi, rfl⟩ := List.getElem_of_mem hq
      have := (hlp i (by omega)).2
      rwa [getD_eq hi] at this
end
end Go.Proofs.YtahmddopbmjepaaDoor
namespace Go.Proofs.YtahmddopbmjepaaDoor
open Go.ChangeShapes Go.WideShapes Go.ChangeAt Go.RowKit
theorem wf_u8' {z : Int} (h : (Lit.int .u8 z).wf = true) : 0 ≤ z ∧ z ≤ 255 := by
  unfold Lit.wf at h
  simp only [Bool.and_eq_true, decide_eq_true_eq] at h
  exact h
theorem wf_u16' {z : Int} (h : (Lit.int .u16 z).wf = true) : 0 ≤ z ∧ z ≤ 65535 := by
  unfold Lit.wf at h
  simp only [Bool.and_eq_true, decide_eq_true_eq] at h
  exact h
theorem wf_i32' {z : Int} (h : (Lit.int .i32 z).wf = true) : -2147483648 ≤ z ∧ z ≤ 2147483647 := by
  unfold Lit.wf at h
  simp only [Bool.and_eq_true, decide_eq_true_eq] at h
  exact h
theorem wf_i64' {z : Int} (h : (Lit.int .i64 z).wf = true) : -9223372036854775808 ≤ z ∧ z ≤ 9223372036854775807 := by
  unfold Lit.wf at h
  simp only [Bool.and_eq_true, decide_eq_true_eq] at h
  exact h
theorem str_of {a : ByteArray} : a = ⟨a.data.toList.toArray⟩ := by apply ByteArray.ext; simp
theorem size_of {a : ByteArray} (h : a.size ≤ maxLen) : a.data.toList.length ≤ 9223372036854775807 := by
  unfold maxLen at h
  rw [Array.length_toList]
  have : a.data.size = a.size := rfl
  omega
end Go.Proofs.YtahmddopbmjepaaDoor
