/- Reading spans out of a text, byte by byte: plain. -/
import Derived.Test.YtlbmkgnfbkimaaaDoorSpMixPlain
namespace Go.Proofs.YtlbmkgnfbkimaaaDoor
namespace Rd

/-- what is read so far: the spans, the number, where the span begins (-1: not yet), how many digits. -/
structure St where
  l : List Sp.S
  n : Int
  f : Int
  d : Nat

def push (s : St) : St := ⟨s.l ++ [(if s.f < 0 then s.n else s.f, s.n)], 0, -1, 0⟩

/-- one byte; none: the end. -/
def step (s : St) : Option Nat → Option St
  | some x =>
    if 48 ≤ x ∧ x ≤ 57 ∧ s.n < 16384 then some ⟨s.l, 10 * s.n + ((x : Int) - 48), s.f, s.d + 1⟩
    else if x = 45 ∧ s.f < 0 ∧ 0 < s.d then some ⟨s.l, 0, s.n, 0⟩
    else if x = 44 ∧ 0 < s.d then some (push s)
    else none
  | none => if 0 < s.d then some (push s) else none

/-- so many bytes, and the end behind them. -/
def run (bs : List UInt8) : Nat → Option St
  | 0 => some ⟨[], 0, -1, 0⟩
  | k + 1 => (run bs k).bind fun s => step s ((bs[k]?).map UInt8.toNat)

/-- all of a text. -/
def all (bs : List UInt8) : Option (List Sp.S) := if bs = [] then some [] else (run bs (bs.length + 1)).map St.l

/-- the numbers stay small. -/
def Ok (s : St) (k : Nat) : Prop := 0 ≤ s.n ∧ s.n ≤ 163849 ∧ -1 ≤ s.f ∧ s.f ≤ 163849 ∧ s.d ≤ k ∧ s.l.length ≤ k ∧ ∀ t ∈ s.l, 0 ≤ t.1 ∧ t.1 ≤ 163849 ∧ 0 ≤ t.2 ∧ t.2 ≤ 163849

theorem push_ok {s : St} {k : Nat} (h : Ok s k) : Ok (push s) (k + 1) := by
  obtain ⟨h1, h2, h3, h4, h5, h6, h7⟩ := h
  refine ⟨by simp [push], by simp [push], by simp [push], by simp [push], by simp [push], by simp [push]; omega, ?_⟩
  intro t ht
  simp only [push] at ht
  rcases List.mem_append.1 ht with ht | ht
  · exact h7 t ht
  · rw [List.mem_singleton.1 ht]
    by_cases hf : s.f < 0
    · simp only [if_pos hf]; omega
    · simp only [if_neg hf]; omega

theorem run_fail {bs : List UInt8} {k : Nat} (h : run bs k = none) : ∀ j, run bs (k + j) = none
  | 0 => h
  | j + 1 => by
    have := run_fail h j
    show (run bs (k + j)).bind _ = none
    rw [this]; rfl

theorem all_fail {bs : List UInt8} {k : Nat} (hk : k ≤ bs.length + 1) (h0 : bs ≠ []) (h : run bs k = none) : all bs = none := by
  unfold all
  rw [if_neg h0]
  have := run_fail h (bs.length + 1 - k)
  rw [show k + (bs.length + 1 - k) = bs.length + 1 from by omega] at this
  rw [this]; rfl

end Rd
end Go.Proofs.YtlbmkgnfbkimaaaDoor
