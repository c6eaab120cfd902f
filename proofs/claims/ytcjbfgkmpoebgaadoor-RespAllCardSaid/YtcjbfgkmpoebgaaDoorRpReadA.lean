/- The contract of the reader's bulk; what is told of a reply that was read. -/
import Derived.Test.YtcjbfgkmpoebgaaDoorRpLine
namespace Go.Proofs.YtcjbfgkmpoebgaaDoor
open Go.RowKit Go.Shelf
attribute [local go_sem] Oper.semAt_some

namespace Rp
def bulkD (bs : List UInt8) : Out R := (devP (-1) 1048576 bs).bind fun n r => if n < 0 then .ok (.mk 5 [] 0 []) r else (textP n.toNat r).map fun s => .mk 4 s 0 []
def arrD (f : List UInt8 → Out R) (bs : List UInt8) : Out R := (devP 0 65536 bs).bind fun n r => (manyP f n.toNat r).map fun l => .mk 6 [] 0 l
def markD (A : List UInt8 → Out R) : List UInt8 → Out R
  | [] => .err 6
  | x :: r =>
    if x = 43 then (lineP r).map fun s => .mk 1 s 0 []
    else if x = 45 then (lineP r).map fun s => .mk 2 s 0 []
    else if x = 58 then (devP (-9223372036854775808) 9223372036854775807 r).map fun n => .mk 3 [] n []
    else if x = 36 then bulkD r
    else if x = 42 then A r
    else .err 5
/-- a reply, so deep at most, as the reader reads it. -/
def replyD : Nat → List UInt8 → Out R
  | 0 => markD fun _ => .err 5
  | d + 1 => markD (arrD (replyD d))
end Rp

/-- what is told of a reply that was read. -/
def ROut (S : Nat → Prop) (Pb : Nat) (w : World) (o : Rp.Out Rp.R) (e : Ending) (w' : World) : Prop :=
  Keeps (fun k => k ≠ Pb) w w' ∧ match o with
    | .ok r t => (∃ v, e = .returned (.tuple #[v, .int .i64 0]) ∧ Rep (fun k => w.heap.size ≤ k) w' r v) ∧ Rst S Pb w' t
    | .err c => c ≠ 0 ∧ ∃ k s n a m cap, e = .returned (.tuple #[.agg #[.int .i64 k, .string s, .int .i64 n, .slice a m cap], .int .i64 c])

theorem ROut.form {S : Nat → Prop} {Pb : Nat} {w : World} {o : Rp.Out Rp.R} {e : Ending} {w' : World} (h : ROut S Pb w o e w') : ∃ k s n a m cap c, e = .returned (.tuple #[.agg #[.int .i64 k, .string s, .int .i64 n, .slice a m cap], .int .i64 c]) := by
  obtain ⟨_, h⟩ := h
  cases o with
  | ok r t =>
    obtain ⟨⟨v, rfl, hr⟩, _⟩ := h
    obtain ⟨a, cap, rfl, _⟩ := hr.parts
    exact ⟨_, _, _, _, _, _, _, rfl⟩
  | err c =>
    obtain ⟨_, k, s, n, a, m, cap, rfl⟩ := h
    exact ⟨_, _, _, _, _, _, _, rfl⟩

theorem NOut.ret {S : Nat → Prop} {Pb : Nat} {w : World} {o : Rp.Out Int} {e : Ending} {w' : World} (h : NOut S Pb w o e w') : ∃ n c, e = .returned (.tuple #[.int .i64 n, .int .i64 c]) := by
  obtain ⟨_, h⟩ := h
  cases o with
  | ok s r => exact ⟨_, _, h.1⟩
  | err c =>
    obtain ⟨n, h⟩ := h
    exact ⟨_, _, h⟩

theorem devP_range {lo hi n : Int} {bs r : List UInt8} (h : Rp.devP lo hi bs = .ok n r) : lo ≤ n ∧ n ≤ hi ∧ r.length ≤ bs.length := by
  unfold Rp.devP at h
  split at h
  · cases h
  · split at h
    · rename_i v _
      split at h
      · rename_i hv
        cases ht : Rp.textP (Rp.lead bs).length bs with
        | err c => rw [ht] at h; cases h
        | ok s t =>
          rw [ht] at h
          injection h with h1 h2
          subst h1 h2
          refine ⟨hv.2.1, hv.2.2, ?_⟩
          unfold Rp.textP at ht
          split at ht
          · cases ht
          · rw [Rp.endP_cases] at ht
            split at ht
            · injection ht with _ ht
              rw [← ht, List.length_drop, List.length_drop]
              omega
            · split at ht <;> cases ht
      · cases h
    · cases h

theorem devP_err {lo hi c : Int} {bs : List UInt8} (h : Rp.devP lo hi bs = .err c) : c = 5 ∨ c = 6 := by
  have he : ∀ {α : Type} (a : α) (b : List UInt8) (c : Int), Rp.endP a b = .err c → c = 5 ∨ c = 6 := fun a b c h => by
    rw [Rp.endP_cases] at h
    split at h
    · cases h
    · split at h <;> injection h with h
      · exact .inr h.symm
      · exact .inl h.symm
  unfold Rp.devP at h
  split at h
  · injection h with h; exact .inr h.symm
  · split at h
    · split at h
      · cases ht : Rp.textP (Rp.lead bs).length bs with
        | ok s t => rw [ht] at h; cases h
        | err c' =>
          rw [ht] at h
          injection h with h
          subst h
          unfold Rp.textP at ht
          split at ht
          · injection ht with ht; exact .inr ht.symm
          · exact he _ _ _ ht
      · injection h with h; exact .inl h.symm
    · injection h with h; exact .inl h.symm

theorem textP_err {n : Nat} {c : Int} {bs : List UInt8} (h : Rp.textP n bs = .err c) : c = 5 ∨ c = 6 := by
  unfold Rp.textP at h
  split at h
  · injection h with h; exact .inr h.symm
  · rw [Rp.endP_cases] at h
    split at h
    · cases h
    · split at h <;> injection h with h
      · exact .inr h.symm
      · exact .inl h.symm

theorem lineP_err {c : Int} {bs : List UInt8} (h : Rp.lineP bs = .err c) : c = 5 ∨ c = 6 := by
  rw [← Rp.line_text] at h
  exact textP_err h

/-- a reply without elements. -/
theorem rep_plain {S : Nat → Prop} {w : World} {k n : Int} {s : List UInt8} (hf : Fit k s n 0 0) : Rep S w (.mk k s n []) (.agg #[.int .i64 k, .string ⟨s.toArray⟩, .int .i64 n, .slice none 0 0]) :=
  Rep.intro (l := []) (a := none) (cap := 0) hf (.inl rfl)

end Go.Proofs.YtcjbfgkmpoebgaaDoor
