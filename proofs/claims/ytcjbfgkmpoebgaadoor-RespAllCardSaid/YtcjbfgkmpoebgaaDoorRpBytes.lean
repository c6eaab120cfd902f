/- Bytes in memory, and the reader's row of what is not read yet. -/
import Derived.Test.YtcjbfgkmpoebgaaDoorRpEnv
import Derived.Lib.SlBytesConst
import Derived.Laws.BytesArg
import Derived.Shelf.Bytes.SlTrim
import Derived.Deep.Cut
import Derived.Deep.QuietTactic
import Derived.Deep.RegionWith
import Derived.StillTailTactics
namespace Go.Proofs.YtcjbfgkmpoebgaaDoor
open Go.RowKit Go.Shelf

/-- a slice holds these bytes, in a block of S. -/
def Bt (S : Nat → Prop) (w : World) (a : Option Addr) (cap : Nat) (bs : List UInt8) : Prop :=
  bs.length ≤ cap ∧ cap ≤ 9223372036854775807 ∧ (bs = [] ∨ ∃ b off, a = some ⟨b, off, none⟩ ∧ S b ∧ b < w.heap.size ∧ ∀ k, k < bs.length → w.cell? ⟨b, off + k, none⟩ = some (.int .u8 ((bs.getD k 0).toNat : Int)))

theorem Bt.keeps {S S' : Nat → Prop} {w w' : World} {a : Option Addr} {cap : Nat} {bs : List UInt8} (h : Bt S w a cap bs) (hk : Keeps S w w') (hS : ∀ k, S k → S' k) : Bt S' w' a cap bs := by
  refine ⟨h.1, h.2.1, h.2.2.imp id ?_⟩
  rintro ⟨b, off, ha, hb, hlt, hc⟩
  exact ⟨b, off, ha, hS b hb, Nat.lt_of_lt_of_le hlt hk.size, fun k hk' => (hk.cell (p := ⟨b, off + k, none⟩) hlt hb).trans (hc k hk')⟩

theorem Bt.later {S : Nat → Prop} {w w' : World} {a : Option Addr} {cap : Nat} {bs : List UInt8} (h : Bt S w a cap bs) (hb : Below w.heap.size w w') : Bt S w' a cap bs :=
  h.keeps (Keeps.of_below hb fun _ h _ => h) fun _ h => h

theorem Bt.to {S : Nat → Prop} {w : World} {a : Option Addr} {cap : Nat} {bs : List UInt8} (h : Bt S w a cap bs) (n : Nat) : Bt S w a cap (bs.take n) := by
  obtain ⟨h1, h2, h3⟩ := h
  refine ⟨by rw [List.length_take]; omega, h2, ?_⟩
  rcases h3 with rfl | ⟨b, off, ha, hb, hlt, hc⟩
  · exact .inl (by simp)
  · refine .inr ⟨b, off, ha, hb, hlt, fun k hk => ?_⟩
    rw [List.length_take] at hk
    rw [hc k (by omega)]
    simp [List.getD, show k < n by omega]

theorem Bt.from {S : Nat → Prop} {w : World} {a : Option Addr} {cap : Nat} {bs : List UInt8} (h : Bt S w a cap bs) {n : Nat} (hn : n ≤ bs.length) : Bt S w (if cap = n then a else a.map fun x => x.add n) (cap - n) (bs.drop n) := by
  obtain ⟨h1, h2, h3⟩ := h
  refine ⟨by rw [List.length_drop]; omega, by omega, ?_⟩
  by_cases hd : bs.drop n = []
  · exact .inl hd
  right
  have hlt : n < bs.length := by
    rcases Nat.lt_or_ge n bs.length with h | h
    · exact h
    · exact absurd (List.drop_eq_nil_of_le h) hd
  rcases h3 with rfl | ⟨b, off, rfl, hb, hlt', hc⟩
  · simp at hlt
  · rw [if_neg (by omega)]
    refine ⟨b, off + n, by simp [Addr.add], hb, hlt', fun k hk => ?_⟩
    rw [List.length_drop] at hk
    rw [Nat.add_assoc, hc (n + k) (by omega)]
    simp [List.getD]

/-- the numbers of bytes. -/
def nums (bs : List UInt8) : List Int := bs.map fun b => (b.toNat : Int)
theorem nums_len (bs : List UInt8) : (nums bs).length = bs.length := by simp [nums]
theorem nums_bytes (bs : List UInt8) : Lib.bytesOf (nums bs) = bs := by
  have : ((fun n : Int => UInt8.ofNat n.toNat) ∘ fun b : UInt8 => (b.toNat : Int)) = id := by funext b; simp
  unfold nums Lib.bytesOf
  rw [List.map_map, this, List.map_id]
theorem nums_range (bs : List UInt8) : ∀ x ∈ nums bs, 0 ≤ x ∧ x < 256 := by
  intro x hx
  obtain ⟨b, _, rfl⟩ := List.mem_map.1 hx
  have := b.toNat_lt
  omega
theorem nums_getD (bs : List UInt8) {k : Nat} (hk : k < bs.length) : (nums bs).getD k 0 = ((bs.getD k 0).toNat : Int) := by simp [nums, List.getD, hk]

theorem Bt.bytesIn {S : Nat → Prop} {w : World} {a : Option Addr} {cap : Nat} {bs : List UInt8} (h : Bt S w a cap bs) : Lib.BytesIn w a bs.length (nums bs) := fun hn => by
  rcases h.2.2 with rfl | ⟨b, off, ha, _, _, hc⟩
  · simp at hn
  · exact ⟨b, off, ha, fun i hi => by rw [hc i hi, nums_getD bs hi]⟩

set_option maxRecDepth 10000 in
theorem Bt.conv {S : Nat → Prop} {w : World} {a : Option Addr} {cap : Nat} {bs : List UInt8} (h : Bt S w a cap bs) : (convert 28 9 (.slice a bs.length cap)).run Tryd.prog w = .ok (.string ⟨bs.toArray⟩) w := by
  rcases h.2.2 with rfl | ⟨b, off, rfl, _, _, hc⟩
  · rw [run_convert_bytes_string w _ _ _ a _ cap Tryd.underlying28 Tryd.underlying5 Tryd.underlying9]
    cases a <;> simp [Conv.bytesToString, loadCells, loadCellsFrom] <;> rfl
  · have := run_convert_bytes_arg (P := Tryd.prog) (w := w) 28 5 Tryd.underlying28 Tryd.underlying5 b off bs.length cap (nums bs) (nums_len bs) (fun i hi => by rw [hc i hi, nums_getD bs hi]) _ Tryd.underlying9
    rw [this]
    have e := Lib.strOfNums_toList (nums bs)
    rw [nums_bytes, Lib.toList_data] at e
    have : ∀ x y : ByteArray, x.data.toList = y.data.toList → x = y := fun x y h => by
      cases x; cases y
      simp at h
      rw [h]
    rw [this (strOfNums (nums bs)) ⟨bs.toArray⟩ (by rw [e])]

/-- what is not read yet. -/
def Rst (S : Nat → Prop) (Pb : Nat) (w : World) (bs : List UInt8) : Prop :=
  ∃ a cap, w.heap[Pb]? = some (.cells #[.slice a bs.length cap] 56 (0, 0)) ∧ Bt S w a cap bs

theorem Rst.keeps {S : Nat → Prop} {Pb : Nat} {w w' : World} {bs : List UInt8} (h : Rst S Pb w bs) {T : Nat → Prop} (hk : Keeps T w w') (hS : ∀ k, S k → T k) (hP : T Pb) : Rst S Pb w' bs := by
  obtain ⟨a, cap, h1, h2⟩ := h
  exact ⟨a, cap, hk.heap h1 hP, h2.keeps (hk.mono fun k _ h => hS k h) fun _ h => h⟩

theorem Rst.lt {S : Nat → Prop} {Pb : Nat} {w : World} {bs : List UInt8} (h : Rst S Pb w bs) : Pb < w.heap.size := by
  obtain ⟨a, cap, h1, _⟩ := h
  exact (Array.getElem?_eq_some_iff.1 h1).1

/-- the reader stands behind n bytes more. -/
theorem Rst.set {S : Nat → Prop} {Pb : Nat} {w : World} {bs : List UInt8} {a : Option Addr} {cap : Nat} (h1 : w.heap[Pb]? = some (.cells #[.slice a bs.length cap] 56 (0, 0))) (hS : ¬ S Pb) {a' : Option Addr} {cap' : Nat} {bs' : List UInt8} (h2 : Bt S w a' cap' bs') : Rst S Pb (w.setCell ⟨Pb, 0, none⟩ (.slice a' bs'.length cap')) bs' :=
  ⟨a', cap', heap_one h1 _, h2.keeps ((Keeps.refl S w).setCell (.inr hS) _) fun _ h => h⟩

/-- what is told of a text that was read, and of what was not. -/
def TOut (S : Nat → Prop) (Pb : Nat) (w : World) (o : Rp.Out (List UInt8)) (e : Ending) (w' : World) : Prop :=
  Keeps (fun k => k ≠ Pb) w w' ∧ match o with
    | .ok s r => e = .returned (.tuple #[.string ⟨s.toArray⟩, .int .i64 0]) ∧ Rst S Pb w' r
    | .err c => e = .returned (.tuple #[.string ⟨#[]⟩, .int .i64 c])

end Go.Proofs.YtcjbfgkmpoebgaaDoor
