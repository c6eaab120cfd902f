/- A law's arguments opened: a slice of fields, of bytes; a byte as a text. -/
import Derived.Test.YtfbfejeccfoioaaHsGet
import Derived.ProofKit
import Derived.SliceStrings
import Derived.Deep.Slices
import Derived.Deep.Fields
import Derived.ChangeSame
import Derived.IntWalk
namespace Go.Proofs.Ytfbfejeccfoioaa
open Go.ChangeShapes Go.WideShapes Go.ChangeAt Go.RowKit
open Go.Deep (hone_of)
set_option linter.unusedVariables false

section
open Go.Deep
variable {H : Type} {enc : TypeId × Value → H} {P : Program} {w : World} {base : Nat} {spare : Nat → Bool} {held : Bool}
theorem open_slice_fields' {t e : TypeId} {fs : Array Field} {fuel : Nat} {cs : List Value} {x : DataW H × List MemPlace} (ht : P.underlying t = some (.slice e)) (he : P.underlying e = some (.struct fs))
    (hone : oneCellFields P fs = true) (hC : P.cellsOf e = fs.size) (h : DataW.trod enc P w base spare held fuel t cs = some x) :
    (cs = [.slice none 0 0]) ∨
    ∃ (a : Addr) (len cap m : Nat), cs = [.slice (some a) len cap] ∧ len ≤ cap ∧ cap ≤ maxLen ∧ len ≤ m ∧
      ∀ i, i < m → ∀ (j : Nat) (f : Field), fs[j]? = some f → ∃ (v : Value) (y : DataW H × List MemPlace) (n : Nat), w.cell? (a.add (i * fs.size + j)) = some v ∧ DataW.trod enc P w base spare held n f.type [v] = some y := by
  rcases open_slice ht h with h0 | ⟨a, len, cap, m, n, D, Pl, hcs, hb, hl, hm, hmm, hx, hi⟩
  · exact .inl h0.1
  · refine .inr ⟨a, len, cap, m, hcs, hl, hm, by rw [hmm]; split <;> omega, fun i him => ?_⟩
    obtain ⟨cs', hc, ht'⟩ := hi i him
    rw [hC] at hc
    obtain ⟨ys, n', hn', hy, hlen, hyl, hf⟩ := DataW.trod_struct he ht'
    obtain ⟨_, hcl, hat⟩ := World.cells?_some hc
    intro j f hj
    obtain ⟨ho, hk⟩ := hone_of hone j f hj
    have hjl : j < fs.size := (Array.getElem?_eq_some_iff.1 hj).1
    have hcell := hat j hjl
    have hv : cs'[j]? = some (cs'[j]'(by omega)) := List.getElem?_eq_getElem (by omega)
    have h1 := hf j f hj
    rw [ho, hk] at h1
    have hone' : (cs'.drop j).take 1 = [cs'[j]'(by omega)] := by
      rw [List.drop_eq_getElem_cons (by omega)]
      rfl
    rw [hone'] at h1
    have hys : ys[j]? = some (ys[j]'(by omega)) := List.getElem?_eq_getElem (by omega)
    refine ⟨_, _, n', ?_, h1.trans hys⟩
    rw [← Go.Deep.add_add, hcell, hv]
end

theorem list_of {α : Type} (d : α) (P : Nat → α → Prop) : ∀ n, (∀ i, i < n → ∃ s, P i s) → ∃ l : List α, l.length = n ∧ ∀ i, i < n → P i (l.getD i d)
  | 0, _ => ⟨[], rfl, by simp⟩
  | n + 1, h => by
    obtain ⟨l, hl, hp⟩ := list_of d P n (fun i hi => h i (by omega))
    obtain ⟨s, hs⟩ := h n (by omega)
    refine ⟨l ++ [s], by simp [hl], fun i hi => ?_⟩
    rcases Nat.lt_or_ge i n with h1 | h1
    · have := hp i h1
      simpa [List.getD, List.getElem?_append, hl, h1] using this
    · obtain rfl : i = n := by omega
      simpa [List.getD, List.getElem?_append, hl] using hs

theorem add_none (b off j : Nat) : (Addr.add ⟨b, off, none⟩ j) = ⟨b, off + j, none⟩ := by
  unfold Addr.add
  split <;> first | omega | rfl | simp

/-- bytes of a text in memory. -/
theorem mk_of (s : ByteArray) : (⟨s.data.toList.toArray⟩ : ByteArray) = s := by
  apply ByteArray.ext
  simp
theorem len_of (s : ByteArray) : s.data.toList.length = s.size := Array.length_toList

/-- a slice of fields. -/
theorem open_fields {H : Type} {enc : TypeId × Value → H} {w : World} {base : Nat} {spare : Nat → Bool} {held : Bool} {fuel : Nat} {cs : List Value} {x : DataW H × List MemPlace}
    (h : DataW.trod enc Try.prog w base spare held fuel 22 cs = some x) : ∃ (a : Option Addr) (cap : Nat) (l : List (List UInt8 × List UInt8)), cs = [.slice a l.length cap] ∧ Fds w a cap l ∧ (a = none → cap = 0) := by
  have hM : maxLen = 9223372036854775807 := by decide
  rcases open_slice_fields' Try.underlying22 Try.underlying42 (by kernel_rfl) (by kernel_rfl) h with rfl | ⟨x, len, c, m, rfl, hl, hm, hmm, hc⟩
  · exact ⟨none, 0, [], rfl, fds_nil w, fun _ => rfl⟩
  · rcases Nat.eq_zero_or_pos len with rfl | hpos
    · exact ⟨some x, c, [], rfl, ⟨by simp, by omega, by simp, .inl rfl⟩, fun h => by cases h⟩
    have hcell : ∀ i, i < len → ∃ s : List UInt8 × List UInt8, w.cell? (x.add (i * 2)) = some (.string ⟨s.1.toArray⟩) ∧ w.cell? (x.add (i * 2 + 1)) = some (.string ⟨s.2.toArray⟩) ∧ s.1.length ≤ 9223372036854775807 ∧ s.2.length ≤ 9223372036854775807 := by
      intro i hi
      obtain ⟨v, y, n, c1, t1⟩ := hc i (by omega) 0 _ rfl
      obtain ⟨v', y', n', c2, t2⟩ := hc i (by omega) 1 _ rfl
      obtain ⟨z1, e1, -, w1⟩ := DataW.trod_string Try.underlying9 t1
      obtain ⟨z2, e2, -, w2⟩ := DataW.trod_string Try.underlying9 t2
      simp at e1 e2
      subst e1 e2
      refine ⟨(z1.data.toList, z2.data.toList), ?_, ?_, ?_, ?_⟩
      · rw [mk_of]; exact c1
      · rw [mk_of]; exact c2
      · rw [len_of]; omega
      · rw [len_of]; omega
    have hspot : x.spot = none := by
      obtain ⟨s, h1, -⟩ := hcell 0 hpos
      simpa [Addr.add] using World.cell?_spot h1
    obtain ⟨b, off, spot⟩ := x
    simp only at hspot
    subst hspot
    have hcell2 : ∀ i, i < len → ∃ s : List UInt8 × List UInt8, w.cell? ⟨b, off + i * 2, none⟩ = some (.string ⟨s.1.toArray⟩) ∧ w.cell? ⟨b, off + i * 2 + 1, none⟩ = some (.string ⟨s.2.toArray⟩) ∧ s.1.length ≤ 9223372036854775807 ∧ s.2.length ≤ 9223372036854775807 := by
      intro i hi
      obtain ⟨s, hs⟩ := hcell i hi
      rw [add_none, add_none] at hs
      exact ⟨s, hs⟩
    obtain ⟨ls, hlen, hf⟩ := list_of ([], []) _ len hcell2
    have hb : b < w.heap.size := by
      have h1 := (hf 0 hpos).1
      exact World.block_lt_of_cell? w _ h1
    refine ⟨some ⟨b, off, none⟩, c, ls, by rw [hlen], ⟨by omega, by omega, fun s hs => ?_, .inr ⟨b, off, rfl, hb, fun k hk => ?_⟩⟩, fun h => by cases h⟩
    · obtain ⟨i, hi, rfl⟩ := List.mem_iff_getElem.1 hs
      have := (hf i (by omega)).2.2
      rw [getD_eq hi] at this
      exact this
    · exact ⟨(hf k (by omega)).1, (hf k (by omega)).2.1⟩

/-- What is told of a slice of bytes: so many cells hold these bytes. -/
def Bytes (w : World) (a : Option Addr) (l : List UInt8) : Prop :=
  l = [] ∨ ∃ b off, a = some ⟨b, off, none⟩ ∧ ∀ k, k < l.length → w.cell? ⟨b, off + k, none⟩ = some (.int .u8 ((l.getD k 0).toNat : Int))

theorem Bytes.later {w w' : World} {a : Option Addr} {l : List UInt8} (h : Bytes w a l) (hb : Below w.heap.size w w') : Bytes w' a l := by
  rcases h with h | ⟨b, off, ha, hc⟩
  · exact .inl h
  · refine .inr ⟨b, off, ha, fun k hk => ?_⟩
    have h1 := hc k hk
    rw [hb.cell (p := ⟨b, off + k, none⟩) (World.block_lt_of_cell? w _ h1)]
    exact h1

/-- the elements of a slice of bytes that came in. -/
theorem bytes_of (w : World) (x : Addr) (len cap : Nat) (zs : List Int) (hl : len ≤ cap) (hm : cap ≤ maxLen) (hz : len ≤ zs.length)
    (hcell : ∀ i, i < zs.length → w.cell? (x.add i) = some (.int .u8 (zs.getD i 0))) (hwz : ∀ n ∈ zs, (Lit.int .u8 n).wf = true) :
    ∃ l : List UInt8, len = l.length ∧ l.length ≤ maxLen ∧ Bytes w (some x) l := by
  have hlen : ((zs.take len).map fun n => UInt8.ofNat n.toNat).length = len := by simp; omega
  refine ⟨(zs.take len).map fun n => UInt8.ofNat n.toNat, hlen.symm, by rw [hlen]; omega, ?_⟩
  by_cases h0 : len = 0
  · left; subst h0; simp
  · right
    obtain ⟨b, off, spot⟩ := x
    have hc := hcell 0 (by omega)
    have hspot : spot = none := by simpa [Addr.add] using World.cell?_spot hc
    subst hspot
    refine ⟨b, off, rfl, fun k hk => ?_⟩
    rw [hlen] at hk
    have hk' : k < zs.length := by omega
    have h1 := hcell k hk'
    have h2 := hwz (zs[k]) (List.getElem_mem hk')
    have h3 : 0 ≤ zs[k] ∧ zs[k] < 256 := by
      simp [Lit.wf, IntKind.min, IntKind.max, IntKind.signed, IntKind.bits] at h2
      omega
    have e : zs.getD k 0 = zs[k] := by simp [List.getD, hk']
    have e2 : (((zs.take len).map fun n => UInt8.ofNat n.toNat).getD k 0).toNat = zs[k].toNat := by
      simp [List.getD, hk, hk']
      omega
    have e3 : ((((zs.take len).map fun n => UInt8.ofNat n.toNat).getD k 0).toNat : Int) = zs[k] := by rw [e2]; omega
    rw [e3, ← e, ← h1]
    by_cases hk0 : k = 0 <;> simp [Addr.add, hk0]


theorem conv_at (W : World) (b : Nat) (x : Int) (h : W.cell? ⟨b, 0, none⟩ = some (.int .u8 x)) :
    (convert 37 9 (.slice (some ⟨b, 0, none⟩) 1 1)).run Try.prog W = .ok (.string ⟨#[UInt8.ofNat x.toNat]⟩) W := by
  rw [run_convert_bytes_string _ _ _ _ _ _ _ Try.underlying37 Try.underlying5 Try.underlying9]
  have hl := run_loadCells_list (P := Try.prog) W ⟨b, 0, none⟩ ([x].map (Value.int .u8)) (fun j v hj => by
    match j, hj with
    | 0, hj =>
      simp at hj
      subst hj
      simpa [Addr.add] using h)
  simp only [List.length_map, List.length_cons, List.length_nil] at hl
  rw [run_bytesToString _ _ _ _ [x] hl]
  rfl

end Go.Proofs.Ytfbfejeccfoioaa
