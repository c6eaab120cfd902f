/- The contracts of the reader's number and line. -/
import Derived.Test.YtcjbfgkmpoebgaaDoorRpText
import Derived.Test.YtcjbfgkmpoebgaaDoorRpOwn
namespace Go.Proofs.YtcjbfgkmpoebgaaDoor
open Go.RowKit Go.Shelf
attribute [local go_sem] Oper.semAt_some

namespace Rp
/-- a sign that may stand in a number. -/
def numC : List UInt8 := [45, 48, 49, 50, 51, 52, 53, 54, 55, 56, 57]
/-- what the reader takes for a number. -/
def lead (bs : List UInt8) : List UInt8 := (bs.take 20).takeWhile fun c => numC.contains c
/-- number's own answer. -/
def devP (lo hi : Int) (bs : List UInt8) : Out Int :=
  if (lead bs = [] ∨ (lead bs = [45] ∧ lo < 0)) ∧ (lead bs).length = bs.length then .err 6
  else match Lib.atoiAll (lead bs) with
    | .ok v => if Dig.dec v = lead bs ∧ lo ≤ v ∧ v ≤ hi then (textP (lead bs).length bs).map fun _ => v else .err 5
    | _ => .err 5
end Rp

/-- what is told of a number that was read. -/
def NOut (S : Nat → Prop) (Pb : Nat) (w : World) (o : Rp.Out Int) (e : Ending) (w' : World) : Prop :=
  Keeps (fun k => k ≠ Pb) w w' ∧ match o with
    | .ok n r => e = .returned (.tuple #[.int .i64 n, .int .i64 0]) ∧ Rst S Pb w' r
    | .err c => ∃ n, e = .returned (.tuple #[.int .i64 n, .int .i64 c])

theorem lead_take (bs : List UInt8) : (bs.take 20).take ((bs.take 20).length - ((bs.take 20).dropWhile fun c => Rp.numC.contains c).length) = Rp.lead bs := by
  unfold Rp.lead
  generalize bs.take 20 = l
  have h := List.takeWhile_append_dropWhile (p := fun c => Rp.numC.contains c) (l := l)
  obtain ⟨t, ht⟩ : ∃ t, (l.takeWhile fun c => Rp.numC.contains c) = t := ⟨_, rfl⟩
  obtain ⟨d, hd⟩ : ∃ d, (l.dropWhile fun c => Rp.numC.contains c) = d := ⟨_, rfl⟩
  rw [ht, hd] at h
  rw [ht, hd, ← h, List.length_append, show t.length + d.length - d.length = t.length by omega, List.take_left]

theorem i64_str {s : List UInt8} (c : List UInt8) : ((⟨s.toArray⟩ : ByteArray).toList == (⟨c.toArray⟩ : ByteArray).toList) = decide (s = c) := by
  rw [Lib.toList_data, Lib.toList_data]
  by_cases h : s = c <;> simp [h]

theorem trim_any (S : Nat → Prop) (w : World) (a : Option Addr) (cap : Nat) (bs : List UInt8) (h : Bt S w a cap bs) :
    Calls Tryd.prog 51 #[.slice a bs.length cap, .string ⟨#[45, 48, 49, 50, 51, 52, 53, 54, 55, 56, 57]⟩] w fun e w' => (∃ b c, e = .returned (.slice b (bs.dropWhile fun c => Rp.numC.contains c).length c)) ∧ Below w.heap.size w w' := by
  refine (Any.bytes_TrimLeft_laid Tryd.trimLeftL (by kernel_rfl) a bs.length cap (nums bs) ⟨#[45, 48, 49, 50, 51, 52, 53, 54, 55, 56, 57]⟩ w (nums_len bs) h.1 h.2.1 h.bytesIn (nums_range bs) (by decide) ?_).mono ?_
  · intro j b hj
    have : b ∈ [45, 48, 49, 50, 51, 52, 53, 54, 55, 56, (57 : UInt8)] := List.mem_of_getElem? hj
    have h2 : ∀ x ∈ [45, 48, 49, 50, 51, 52, 53, 54, 55, 56, (57 : UInt8)], x.toNat < 128 := by decide
    exact h2 b this
  · rintro e w' ⟨rfl, hb⟩
    refine ⟨?_, hb⟩
    rw [nums_bytes]
    have e1 : Lib.trimLeftS bs (⟨#[45, 48, 49, 50, 51, 52, 53, 54, 55, 56, 57]⟩ : ByteArray).data.toList = bs.dropWhile fun c => Rp.numC.contains c := rfl
    rw [e1]
    have hle : (bs.dropWhile fun c => Rp.numC.contains c).length ≤ bs.length := (List.dropWhile_sublist _).length_le
    unfold Lib.leftV Lib.fromV
    split
    · exact ⟨none, 0, by rw [show (bs.dropWhile fun c => Rp.numC.contains c).length = 0 by omega]⟩
    · exact ⟨_, _, by rw [show bs.length - (bs.length - (bs.dropWhile fun c => Rp.numC.contains c).length) = (bs.dropWhile fun c => Rp.numC.contains c).length by omega]⟩

theorem TOut.ret {S : Nat → Prop} {Pb : Nat} {w : World} {o : Rp.Out (List UInt8)} {e : Ending} {w' : World} (h : TOut S Pb w o e w') : ∃ s c, e = .returned (.tuple #[.string s, .int .i64 c]) := by
  obtain ⟨_, h⟩ := h
  cases o with
  | ok s r => exact ⟨_, _, h.1⟩
  | err c => exact ⟨_, _, h⟩

theorem ht_nout {S : Nat → Prop} {Pb : Nat} {w w4 w5 : World} {o : Rp.Out (List UInt8)} {v c : Int} {sv : ByteArray} (hb : Below w.heap.size w w4) (h : TOut S Pb w4 o (.returned (.tuple #[.string sv, .int .i64 c])) w5) :
    NOut S Pb w (o.map fun _ => v) (.returned (.tuple #[.int .i64 v, .int .i64 c])) w5 := by
  obtain ⟨hk, h⟩ := h
  refine ⟨(Keeps.of_below hb fun k h _ => h).trans (hk.mono fun k _ h => h), ?_⟩
  cases o with
  | ok s r =>
    obtain ⟨h1, h2⟩ := h
    injection h1 with h1
    injection h1 with h1
    simp only [Array.mk.injEq, List.cons.injEq, Value.int.injEq, and_true, true_and] at h1
    exact ⟨by rw [h1.2], h2⟩
  | err c' =>
    injection h with h
    injection h with h
    simp only [Array.mk.injEq, List.cons.injEq, Value.int.injEq, and_true, true_and] at h
    exact ⟨v, by rw [h.2]⟩

theorem atoi_none : Lib.atoiAll [] = .«syntax» := rfl
theorem atoi_sign : Lib.atoiAll [45] = .«syntax» := by decide

end Go.Proofs.YtcjbfgkmpoebgaaDoor
