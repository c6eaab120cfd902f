/- A law's arguments opened: a slice of texts, of bytes; texts as lists; bounds of integers. -/
import Derived.Test.YtekdmnecjgpokaaWds
import Derived.ProofKit
import Derived.SliceStrings
import Derived.ChangeSame
import Derived.IntWalk
namespace Go.Proofs.Ytekdmnecjgpokaa
open Go.ChangeShapes Go.WideShapes Go.ChangeAt Go.RowKit
set_option linter.unusedVariables false

theorem mk_of (s : ByteArray) : (⟨s.data.toList.toArray⟩ : ByteArray) = s := by
  apply ByteArray.ext
  simp
theorem len_of (s : ByteArray) : s.data.toList.length = s.size := Array.length_toList
theorem wf_i64 {n : Int} (h : (Lit.int .i64 n).wf = true) : -9223372036854775808 ≤ n ∧ n ≤ 9223372036854775807 := by
  simp [Lit.wf, IntKind.min, IntKind.max, IntKind.signed, IntKind.bits] at h
  omega
theorem wf_i8 {n : Int} (h : (Lit.int .i8 n).wf = true) : -128 ≤ n ∧ n ≤ 127 := by
  simp [Lit.wf, IntKind.min, IntKind.max, IntKind.signed, IntKind.bits] at h
  omega
theorem wf_u8 {n : Int} (h : (Lit.int .u8 n).wf = true) : 0 ≤ n ∧ n ≤ 255 := by
  simp [Lit.wf, IntKind.min, IntKind.max, IntKind.signed, IntKind.bits] at h
  omega

/-- a slice of strings. -/
def Strs (w : World) (a : Option Addr) (cap : Nat) (ss : List ByteArray) : Prop :=
  ss.length ≤ cap ∧ cap ≤ maxLen ∧ (∀ s ∈ ss, s.size ≤ maxLen) ∧ (ss = [] ∨ ∃ b off, a = some ⟨b, off, none⟩ ∧ b < w.heap.size ∧ ∀ k, k < ss.length → w.cell? ⟨b, off + k, none⟩ = some (.string (ss.getD k ByteArray.empty)))

theorem strs_none (w : World) : Strs w none 0 [] := ⟨Nat.le_refl _, Nat.zero_le _, fun s hs => by simp at hs, .inl rfl⟩

/-- the elements of a slice of strings that came in. -/
theorem strs_of (w : World) (x : Addr) (len cap : Nat) (ss : List ByteArray) (hl : len ≤ cap) (hm : cap ≤ maxLen) (hz : len ≤ ss.length)
    (hcell : ∀ i, i < ss.length → w.cell? (x.add i) = some (.string (ss.getD i ByteArray.empty))) (hws : ∀ s ∈ ss, s.size ≤ maxLen) :
    ∃ ts : List ByteArray, len = ts.length ∧ ts.length ≤ maxLen ∧ Strs w (some x) cap ts := by
  have hlen : (ss.take len).length = len := by simp; omega
  refine ⟨ss.take len, hlen.symm, by rw [hlen]; omega, by rw [hlen]; exact hl, hm, fun s hs => hws s (List.mem_of_mem_take hs), ?_⟩
  by_cases h0 : len = 0
  · left; subst h0; simp
  · right
    obtain ⟨b, off, spot⟩ := x
    have hc := hcell 0 (by omega)
    have hspot : spot = none := by simpa [Addr.add] using World.cell?_spot hc
    subst hspot
    have hb : b < w.heap.size := by
      rcases Nat.lt_or_ge b w.heap.size with h' | h'
      · exact h'
      · simp [Addr.add, World.cell?, Array.getElem?_eq_none h'] at hc
    refine ⟨b, off, rfl, hb, fun k hk => ?_⟩
    rw [hlen] at hk
    have h1 := hcell k (by omega)
    have a1 : (Addr.add ⟨b, off, none⟩ k) = ⟨b, off + k, none⟩ := by unfold Addr.add; split <;> simp_all
    rw [a1] at h1
    rw [h1]
    simp [List.getD, hk]

/-- .. as words. -/
theorem Strs.words {w : World} {a : Option Addr} {cap : Nat} {ss : List ByteArray} (h : Strs w a cap ss) : Wds w a cap (ss.map fun s => s.data.toList) := by
  obtain ⟨h0, h1, h2, h3⟩ := h
  have hM : maxLen = 9223372036854775807 := by decide
  refine ⟨by simpa using h0, by omega, ?_, ?_⟩
  · intro l hl
    obtain ⟨s, hs, rfl⟩ := List.mem_map.1 hl
    have := h2 s hs
    have e : s.data.toList.length = s.size := by simp
    omega
  · rcases h3 with rfl | ⟨b, off, ha, hlt, hc⟩
    · exact .inl rfl
    · refine .inr ⟨b, off, ha, hlt, fun k hk => ?_⟩
      rw [List.length_map] at hk
      rw [hc k hk, getD_eq hk, getD_eq (by rw [List.length_map]; exact hk)]
      simp

/-- What is told of a slice of bytes: so many cells hold these bytes. -/
def Bytes (w : World) (a : Option Addr) (l : List UInt8) : Prop :=
  l = [] ∨ ∃ b off, a = some ⟨b, off, none⟩ ∧ ∀ k, k < l.length → w.cell? ⟨b, off + k, none⟩ = some (.int .u8 ((l.getD k 0).toNat : Int))

theorem Bytes.later {w w' : World} {a : Option Addr} {l : List UInt8} (h : Bytes w a l) (hb : Below w.heap.size w w') : Bytes w' a l := by
  rcases h with h | ⟨b, off, ha, hc⟩
  · exact .inl h
  · refine .inr ⟨b, off, ha, fun k hk => ?_⟩
    have h1 := hc k hk
    rw [hb.cell (p := ⟨b, off + k, none⟩) (World.block_lt_of_cell? w _ h1)]
    exact h1

/-- the elements of a slice of bytes that came in. -/
theorem bytes_of (w : World) (x : Addr) (len cap : Nat) (zs : List Int) (hl : len ≤ cap) (hm : cap ≤ maxLen) (hz : len ≤ zs.length)
    (hcell : ∀ i, i < zs.length → w.cell? (x.add i) = some (.int .u8 (zs.getD i 0))) (hwz : ∀ n ∈ zs, (Lit.int .u8 n).wf = true) :
    ∃ l : List UInt8, len = l.length ∧ l.length ≤ maxLen ∧ Bytes w (some x) l := by
  have hlen : ((zs.take len).map fun n => UInt8.ofNat n.toNat).length = len := by simp; omega
  refine ⟨(zs.take len).map fun n => UInt8.ofNat n.toNat, hlen.symm, by rw [hlen]; omega, ?_⟩
  by_cases h0 : len = 0
  · left; subst h0; simp
  · right
    obtain ⟨b, off, spot⟩ := x
    have hc := hcell 0 (by omega)
    have hspot : spot = none := by simpa [Addr.add] using World.cell?_spot hc
    subst hspot
    refine ⟨b, off, rfl, fun k hk => ?_⟩
    rw [hlen] at hk
    have hk' : k < zs.length := by omega
    have h1 := hcell k hk'
    have h2 := hwz (zs[k]) (List.getElem_mem hk')
    have h3 : 0 ≤ zs[k] ∧ zs[k] < 256 := by
      simp [Lit.wf, IntKind.min, IntKind.max, IntKind.signed, IntKind.bits] at h2
      omega
    have e : zs.getD k 0 = zs[k] := by simp [List.getD, hk']
    have e2 : (((zs.take len).map fun n => UInt8.ofNat n.toNat).getD k 0).toNat = zs[k].toNat := by
      simp [List.getD, hk, hk']
      omega
    have e3 : ((((zs.take len).map fun n => UInt8.ofNat n.toNat).getD k 0).toNat : Int) = zs[k] := by rw [e2]; omega
    rw [e3, ← e, ← h1]
    by_cases hk0 : k = 0 <;> simp [Addr.add, hk0]


theorem conv_at (W : World) (b : Nat) (x : Int) (h : W.cell? ⟨b, 0, none⟩ = some (.int .u8 x)) :
    (convert 35 9 (.slice (some ⟨b, 0, none⟩) 1 1)).run Try.prog W = .ok (.string ⟨#[UInt8.ofNat x.toNat]⟩) W := by
  rw [run_convert_bytes_string _ _ _ _ _ _ _ Try.underlying35 Try.underlying5 Try.underlying9]
  have hl := run_loadCells_list (P := Try.prog) W ⟨b, 0, none⟩ ([x].map (Value.int .u8)) (fun j v hj => by
    match j, hj with
    | 0, hj =>
      simp at hj
      subst hj
      simpa [Addr.add] using h)
  simp only [List.length_map, List.length_cons, List.length_nil] at hl
  rw [run_bytesToString _ _ _ _ [x] hl]
  rfl

end Go.Proofs.Ytekdmnecjgpokaa
