/- A law's argument of type api.Item, opened. -/
import Derived.Test.YtkmdpmkjcfccnaaItMay
import Derived.ProofKit
import Derived.SliceStrings
import Derived.Deep.Slices
import Derived.Deep.Fields
import Derived.ChangeSame
namespace Go.Proofs.Ytkmdpmkjcfccnaa
open Go.ChangeShapes Go.WideShapes Go.ChangeAt Go.RowKit
open Go.Deep (hone_of)

section
open Go.Deep
variable {H : Type} {enc : TypeId × Value → H} {P : Program} {w : World} {base : Nat} {spare : Nat → Bool} {held : Bool}
theorem open_slice_fields' {t e : TypeId} {fs : Array Field} {fuel : Nat} {cs : List Value} {x : DataW H × List MemPlace} (ht : P.underlying t = some (.slice e)) (he : P.underlying e = some (.struct fs))
    (hone : oneCellFields P fs = true) (hC : P.cellsOf e = fs.size) (h : DataW.trod enc P w base spare held fuel t cs = some x) :
    (cs = [.slice none 0 0]) ∨
    ∃ (a : Addr) (len cap m : Nat), cs = [.slice (some a) len cap] ∧ len ≤ cap ∧ cap ≤ maxLen ∧ len ≤ m ∧
      ∀ i, i < m → ∀ (j : Nat) (f : Field), fs[j]? = some f → ∃ (v : Value) (y : DataW H × List MemPlace) (n : Nat), w.cell? (a.add (i * fs.size + j)) = some v ∧ DataW.trod enc P w base spare held n f.type [v] = some y := by
  rcases open_slice ht h with h0 | ⟨a, len, cap, m, n, D, Pl, hcs, hb, hl, hm, hmm, hx, hi⟩
  · exact .inl h0.1
  · refine .inr ⟨a, len, cap, m, hcs, hl, hm, by rw [hmm]; split <;> omega, fun i him => ?_⟩
    obtain ⟨cs', hc, ht'⟩ := hi i him
    rw [hC] at hc
    obtain ⟨ys, n', hn', hy, hlen, hyl, hf⟩ := DataW.trod_struct he ht'
    obtain ⟨_, hcl, hat⟩ := World.cells?_some hc
    intro j f hj
    obtain ⟨ho, hk⟩ := hone_of hone j f hj
    have hjl : j < fs.size := (Array.getElem?_eq_some_iff.1 hj).1
    have hcell := hat j hjl
    have hv : cs'[j]? = some (cs'[j]'(by omega)) := List.getElem?_eq_getElem (by omega)
    have h1 := hf j f hj
    rw [ho, hk] at h1
    have hone' : (cs'.drop j).take 1 = [cs'[j]'(by omega)] := by
      rw [List.drop_eq_getElem_cons (by omega)]
      rfl
    rw [hone'] at h1
    have hys : ys[j]? = some (ys[j]'(by omega)) := List.getElem?_eq_getElem (by omega)
    refine ⟨_, _, n', ?_, h1.trans hys⟩
    rw [← Go.Deep.add_add, hcell, hv]
end

theorem list_of {α : Type} (d : α) (P : Nat → α → Prop) : ∀ n, (∀ i, i < n → ∃ s, P i s) → ∃ l : List α, l.length = n ∧ ∀ i, i < n → P i (l.getD i d)
  | 0, _ => ⟨[], rfl, by simp⟩
  | n + 1, h => by
    obtain ⟨l, hl, hp⟩ := list_of d P n (fun i hi => h i (by omega))
    obtain ⟨s, hs⟩ := h n (by omega)
    refine ⟨l ++ [s], by simp [hl], fun i hi => ?_⟩
    rcases Nat.lt_or_ge i n with h1 | h1
    · have := hp i h1
      simpa [List.getD, List.getElem?_append, hl, h1] using this
    · obtain rfl : i = n := by omega
      simpa [List.getD, List.getElem?_append, hl] using hs

theorem add_none (b off j : Nat) : (Addr.add ⟨b, off, none⟩ j) = ⟨b, off + j, none⟩ := by
  unfold Addr.add
  split <;> first | omega | rfl | simp

/-- bytes of a text in memory. -/
theorem mk_of (s : ByteArray) : (⟨s.data.toList.toArray⟩ : ByteArray) = s := by
  apply ByteArray.ext
  simp
theorem len_of (s : ByteArray) : s.data.toList.length = s.size := Array.length_toList

/-- a slice of fields. -/
theorem open_fields {H : Type} {enc : TypeId × Value → H} {w : World} {base : Nat} {spare : Nat → Bool} {held : Bool} {fuel : Nat} {cs : List Value} {x : DataW H × List MemPlace}
    (h : DataW.trod enc Try.prog w base spare held fuel 28 cs = some x) : ∃ (a : Option Addr) (cap : Nat) (l : List (List UInt8 × List UInt8)), cs = [.slice a l.length cap] ∧ Fds w a cap l := by
  have hM : maxLen = 9223372036854775807 := by decide
  rcases open_slice_fields' Try.underlying28 Try.underlying82 (by kernel_rfl) (by kernel_rfl) h with rfl | ⟨x, len, c, m, rfl, hl, hm, hmm, hc⟩
  · exact ⟨none, 0, [], rfl, fds_nil w⟩
  · rcases Nat.eq_zero_or_pos len with rfl | hpos
    · exact ⟨some x, c, [], rfl, by simp, by omega, by simp, .inl rfl⟩
    have hcell : ∀ i, i < len → ∃ s : List UInt8 × List UInt8, w.cell? (x.add (i * 2)) = some (.string ⟨s.1.toArray⟩) ∧ w.cell? (x.add (i * 2 + 1)) = some (.string ⟨s.2.toArray⟩) ∧ s.1.length ≤ 9223372036854775807 ∧ s.2.length ≤ 9223372036854775807 := by
      intro i hi
      obtain ⟨v, y, n, c1, t1⟩ := hc i (by omega) 0 _ rfl
      obtain ⟨v', y', n', c2, t2⟩ := hc i (by omega) 1 _ rfl
      obtain ⟨z1, e1, -, w1⟩ := DataW.trod_string Try.underlying9 t1
      obtain ⟨z2, e2, -, w2⟩ := DataW.trod_string Try.underlying9 t2
      simp at e1 e2
      subst e1 e2
      refine ⟨(z1.data.toList, z2.data.toList), ?_, ?_, ?_, ?_⟩
      · rw [mk_of]; exact c1
      · rw [mk_of]; exact c2
      · rw [len_of]; omega
      · rw [len_of]; omega
    have hspot : x.spot = none := by
      obtain ⟨s, h1, -⟩ := hcell 0 hpos
      simpa [Addr.add] using World.cell?_spot h1
    obtain ⟨b, off, spot⟩ := x
    simp only at hspot
    subst hspot
    have hcell2 : ∀ i, i < len → ∃ s : List UInt8 × List UInt8, w.cell? ⟨b, off + i * 2, none⟩ = some (.string ⟨s.1.toArray⟩) ∧ w.cell? ⟨b, off + i * 2 + 1, none⟩ = some (.string ⟨s.2.toArray⟩) ∧ s.1.length ≤ 9223372036854775807 ∧ s.2.length ≤ 9223372036854775807 := by
      intro i hi
      obtain ⟨s, hs⟩ := hcell i hi
      rw [add_none, add_none] at hs
      exact ⟨s, hs⟩
    obtain ⟨ls, hlen, hf⟩ := list_of ([], []) _ len hcell2
    have hb : b < w.heap.size := by
      have h1 := (hf 0 hpos).1
      exact World.block_lt_of_cell? w _ h1
    refine ⟨some ⟨b, off, none⟩, c, ls, by rw [hlen], by omega, by omega, fun s hs => ?_, .inr ⟨b, off, rfl, hb, fun k hk => ?_⟩⟩
    · obtain ⟨i, hi, rfl⟩ := List.mem_iff_getElem.1 hs
      have := (hf i (by omega)).2.2
      rw [getD_eq hi] at this
      exact this
    · exact ⟨(hf k (by omega)).1, (hf k (by omega)).2.1⟩

/-- a slice of texts. -/
theorem open_words {H : Type} {enc : TypeId × Value → H} {w : World} {base : Nat} {spare : Nat → Bool} {held : Bool} {fuel : Nat} {cs : List Value} {x : DataW H × List MemPlace}
    (h : DataW.trod enc Try.prog w base spare held fuel 29 cs = some x) : ∃ (a : Option Addr) (cap : Nat) (l : List (List UInt8)), cs = [.slice a l.length cap] ∧ Wds w a cap l ∧ (a = none → cap = 0) := by
  have hM : maxLen = 9223372036854775807 := by decide
  rcases open_strings Try.underlying29 Try.underlying9 (by kernel_rfl) h with ⟨rfl, _⟩ | ⟨x, len, c, ss, rfl, _, hl, hm, hss, _, hc, hw⟩
  · exact ⟨none, 0, [], rfl, wds_nil w, fun _ => rfl⟩
  · have hsl : len ≤ ss.length := by rw [hss]; split <;> omega
    rcases Nat.eq_zero_or_pos len with rfl | hpos
    · exact ⟨some x, c, [], rfl, ⟨by simp, by omega, by simp, .inl rfl⟩, fun h => by cases h⟩
    have hspot : x.spot = none := by
      have h1 := hc 0 (by omega)
      simpa [Addr.add] using World.cell?_spot h1
    obtain ⟨b, off, spot⟩ := x
    simp only at hspot
    subst hspot
    have hb : b < w.heap.size := World.block_lt_of_cell? w _ (by have := hc 0 (by omega); rw [add_none] at this; exact this)
    refine ⟨some ⟨b, off, none⟩, c, (ss.take len).map (·.data.toList), by simp [Nat.min_eq_left hsl], ⟨by simp; omega, by omega, fun s hs => ?_, .inr ⟨b, off, rfl, hb, fun k hk => ?_⟩⟩, fun h => by cases h⟩
    · rw [List.mem_map] at hs
      obtain ⟨t, ht, rfl⟩ := hs
      have := hw t (List.mem_of_mem_take ht)
      rw [len_of]
      omega
    · simp only [List.length_map, List.length_take] at hk
      have h1 := hc k (by omega)
      rw [add_none] at h1
      rw [h1]
      simp only [List.getD, List.getElem?_map, List.getElem?_take, if_pos (show k < len by omega)]
      cases h : ss[k]? with
      | none => exact absurd (List.getElem?_eq_none_iff.1 h) (by omega)
      | some t => simp
set_option maxRecDepth 100000 in
/-- an item. -/
theorem open_item {H : Type} {enc : TypeId × Value → H} {w : World} {base : Nat} {spare : Nat → Bool} {held : Bool} {r : Reach} {b0 : Nat} {v : Value} {d : DataW H} {p : List MemPlace}
    (hv : Value.okWide Try.prog w r b0 31 v) (h : DataW.Trod enc Try.prog w base spare held 31 v d p) :
    ∃ (k x : Int) (s : List UInt8) (aF : Option Addr) (cF : Nat) (fs : List (List UInt8 × List UInt8)) (aL : Option Addr) (cL : Nat) (ws : List (List UInt8)), v = itv k s aF fs.length cF aL ws.length cL x ∧ Fds w aF cF fs ∧ Wds w aL cL ws ∧ s.length ≤ 9223372036854775807 ∧ (Lit.int .i64 k).wf = true ∧ (Lit.int .i64 x).wf = true ∧ (aL = none → cL = 0) := by
  have hM : maxLen = 9223372036854775807 := by decide
  obtain ⟨cs, rfl, hsz⟩ := okWide_struct Try.underlying31 hv
  have hC : Try.prog.cellsOf 31 = 5 := by kernel_rfl
  rw [hC] at hsz
  obtain ⟨l⟩ := cs
  match l, hsz with
  | [c0, c1, c2, c3, c4], _ =>
    obtain ⟨fuel, hf⟩ := h
    obtain ⟨xs, n, _, _, _, hlen, hg⟩ := DataW.trod_struct Try.underlying31 hf
    have k1 : Try.prog.cellsOf 3 = 1 := by kernel_rfl
    have k2 : Try.prog.cellsOf 9 = 1 := by kernel_rfl
    have k3 : Try.prog.cellsOf 28 = 1 := by kernel_rfl
    have k4 : Try.prog.cellsOf 29 = 1 := by kernel_rfl
    match xs, hlen with
    | [y0, y1, y2, y3, y4], _ =>
      have t0 : DataW.trod enc Try.prog w base spare held n 3 [c0] = some y0 := by simpa [Value.cells, k1] using hg 0 _ rfl
      have t1 : DataW.trod enc Try.prog w base spare held n 9 [c1] = some y1 := by simpa [Value.cells, k2] using hg 1 _ rfl
      have t2 : DataW.trod enc Try.prog w base spare held n 28 [c2] = some y2 := by simpa [Value.cells, k3] using hg 2 _ rfl
      have t3 : DataW.trod enc Try.prog w base spare held n 29 [c3] = some y3 := by simpa [Value.cells, k4] using hg 3 _ rfl
      have t4 : DataW.trod enc Try.prog w base spare held n 3 [c4] = some y4 := by simpa [Value.cells, k1] using hg 4 _ rfl
      obtain ⟨z0, e0, -, w0⟩ := DataW.trod_int Try.underlying3 t0
      obtain ⟨z1, e1, -, w1⟩ := DataW.trod_string Try.underlying9 t1
      obtain ⟨aF, cF, fs, e2, hF⟩ := open_fields t2
      obtain ⟨aL, cL, ws, e3, hL, hn⟩ := open_words t3
      obtain ⟨z4, e4, -, w4⟩ := DataW.trod_int Try.underlying3 t4
      simp only [List.cons.injEq, and_true] at e0 e1 e2 e3 e4
      subst e0 e1 e2 e3 e4
      refine ⟨z0, z4, z1.data.toList, aF, cF, fs, aL, cL, ws, ?_, hF, hL, by rw [len_of]; omega, w0, w4, hn⟩
      unfold itv
      rw [mk_of]
end Go.Proofs.Ytkmdpmkjcfccnaa
