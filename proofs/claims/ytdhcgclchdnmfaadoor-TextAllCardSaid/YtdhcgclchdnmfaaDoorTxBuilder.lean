/- strings.Builder as the call's own bytes: Len, WriteString, String; strings.Repeat of a zero byte. -/
import Derived.Test.YtdhcgclchdnmfaaDoorTxBase
import Derived.Test.YtdhcgclchdnmfaaDoorShelf
namespace Go.Proofs.YtdhcgclchdnmfaaDoor
open Go.RowKit Go.Shelf
set_option linter.unusedVariables false
set_option linter.unusedSimpArgs false

/-- a builder in block b that holds the bytes l; all that it has lies from B on. -/
def BF (B b : Nat) (l : List UInt8) (w : World) : Prop := Lib.IsBuilderF 46 5 B b (Lib.byteCells l) w

theorem BF.new (w : World) : BF w.heap.size w.heap.size [] (w.alloc (.cells #[.pointer none, .slice none 0 0] 46)) :=
  Lib.IsBuilderF.of (Lib.fresh_isBuilder _ _ w)

theorem BF.later {B b : Nat} {l : List UInt8} {w w' : World} (h : BF B b l w) (hb : Below w.heap.size w w') : BF B b l w' := by
  have hk : ∀ p, Lib.BuilderAtF 46 5 B b p (Lib.byteCells l) w → Lib.BuilderAtF 46 5 B b p (Lib.byteCells l) w' := by
    rintro p ⟨hB, v, hbk, hown, hne⟩
    refine ⟨hB, v, ?_, ?_, hne⟩
    · rw [hb.block b (Array.getElem?_eq_some_iff.1 hbk).1]; exact hbk
    · obtain ⟨h1, h2⟩ := hown
      refine ⟨h1, ?_⟩
      rcases h2 with h2 | ⟨g, cap, cur, fz, e1, e2, e3, e4⟩
      · exact .inl h2
      · exact .inr ⟨g, cap, cur, fz, e1, e2, by rw [hb.block g (Array.getElem?_eq_some_iff.1 e3).1]; exact e3, e4⟩
  exact h.elim (fun x => .inl (hk _ x)) (fun x => .inr (hk _ x))

theorem blen_any {B b : Nat} {l : List UInt8} {w : World} (h : BF B b l w) : Calls Tryd.prog 21 #[.pointer (some ⟨b, 0, none⟩)] w fun e W => e = .returned (.int .i64 l.length) ∧ w = W := by
  refine (Tryd.Builder_Len_f B b (Lib.byteCells l) w h).mono ?_
  rintro e W ⟨rfl, rfl⟩
  exact ⟨by rw [Lib.byteCells_length], rfl⟩

theorem bwrite_any {B b : Nat} {l : List UInt8} (x : List UInt8) {w : World} (h : BF B b l w) (hlen : l.length + x.length ≤ 140737488355328) (hBw : B ≤ w.heap.size) :
    Calls Tryd.prog 19 #[.pointer (some ⟨b, 0, none⟩), .string ⟨x.toArray⟩] w fun e W => e = .returned (.tuple #[.int .i64 x.length, .nilIface]) ∧ BF B b (l ++ x) W ∧ Below B w W := by
  have hs : (⟨x.toArray⟩ : ByteArray).size = x.length := by simp [ByteArray.size]
  have hc : Lib.strCells ⟨x.toArray⟩ = Lib.byteCells x := rfl
  have ha : Lib.byteCells l ++ Lib.byteCells x = Lib.byteCells (l ++ x) := by simp [Lib.byteCells]
  have h1 : (Lib.byteCells l).length + (⟨x.toArray⟩ : ByteArray).size ≤ 140737488355328 := by rw [Lib.byteCells_length, hs]; exact hlen
  have hk := Any.Builder_WriteString_f (P := Tryd.prog) (ρ := Tryd.lays105_ren) { Tryd.lays105 with } Tryd.Builder_Extra_105 B b (Lib.byteCells l) ⟨x.toArray⟩ w h h1 hBw
  refine Calls.mono (R := fun e W => e = .returned (.tuple #[.int .i64 (⟨x.toArray⟩ : ByteArray).size, .nilIface]) ∧ (Lib.BuilderAtF 46 5 B b (.pointer (some ⟨b, 0, none⟩)) (Lib.byteCells l ++ Lib.strCells ⟨x.toArray⟩) W ∧ Below B w W)) hk ?_
  rintro e W ⟨rfl, h2, h3⟩
  refine ⟨by rw [hs], .inr ?_, h3⟩
  rw [← ha, ← hc]
  exact h2

theorem bstring_any {B b : Nat} {l : List UInt8} {w : World} (h : BF B b l w) (hBw : B ≤ w.heap.size) :
    Calls Tryd.prog 22 #[.pointer (some ⟨b, 0, none⟩)] w fun e W => e = .returned (.string ⟨l.toArray⟩) ∧ Below B w W := by
  refine (Tryd.Builder_String_any_f B b l w h hBw).mono ?_
  rintro e W ⟨rfl, _, h3⟩
  exact ⟨rfl, h3⟩

theorem zeros_any (c : Nat) (w : World) (hc : c ≤ 1000000) : Calls Tryd.prog 20 #[.string ⟨#[0]⟩, .int .i64 (c : Int)] w fun e W => e = .returned (.string ⟨(List.replicate c (0 : UInt8)).toArray⟩) ∧ Below w.heap.size w W := by
  refine (Tryd.strings_Repeat ⟨#[0]⟩ c w (by omega) (by show 1 * c ≤ _; omega)).mono ?_
  rintro e W ⟨rfl, h⟩
  refine ⟨?_, h⟩
  have := Lib.repeatL_replicate (0 : UInt8) 1 c
  rw [Nat.mul_one] at this
  rw [← this]
  rfl
end Go.Proofs.YtdhcgclchdnmfaaDoor
