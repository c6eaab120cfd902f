/- Plain: the words that the statement CmdKeys builds, and what Check and Keys say of them. No program in it. -/
import Derived.Test.YtibipalncknddaaCmLawPlain
namespace Go.Proofs.Ytibipalncknddaa
namespace Cm

def kwTo (nm : List UInt8) : Nat → List (List UInt8)
  | 0 => [nm]
  | m + 1 => kwTo nm m ++ [kd (m + 1)]
def kW (s : Sp) : List (List UInt8) := kwTo s.nm (s.least.toNat - 1)
/-- a key that is too long. -/
def longK : List UInt8 := [48, 49, 50, 51, 52, 53, 54, 55, 56, 57, 48, 49, 50, 51, 52, 53, 54, 55, 56, 57, 48, 49, 50, 51, 52, 53, 54, 55, 56, 57, 48, 49, 50, 51, 52, 53, 54, 55, 56, 57, 120]

theorem kwTo_len (nm : List UInt8) : ∀ m, (kwTo nm m).length = m + 1
  | 0 => rfl
  | m + 1 => by simp [kwTo, kwTo_len nm m]

theorem kwTo_short {nm : List UInt8} (h : nm.length ≤ 100) : ∀ m, ∀ s ∈ kwTo nm m, s.length ≤ 100
  | 0, s, hs => by rw [List.mem_singleton.1 hs]; exact h
  | m + 1, s, hs => by
    rcases List.mem_append.1 hs with hs | hs
    · exact kwTo_short h m s hs
    · rw [List.mem_singleton.1 hs]
      have := @kd_len (m + 1)
      omega

def kchk (nm : List UInt8) : Bool :=
  match findS nm with
  | none => false
  | some s => (s.nm == nm) && (checkS (kW s)).isSome && !(checkS ((kW s).take (s.least.toNat - 1))).isSome && (decide (s.first = 0) == (keysOf (kW s)).isEmpty) &&
      (decide (s.first = 0) || (keysOf (kW s)).getD 0 [] == [107, 49]) && (decide (s.first = 0) || !(checkS ((kW s).set 1 longK)).isSome) &&
      (decide (s.most = 0) || ((!(checkS (kW s ++ [[120]])).isSome) == decide (s.most = s.least))) && (!decide (s.most = 0) || (List.range 20).all fun j => (checkS (kW s ++ List.replicate (2 * j) [109])).isSome)

theorem kchk_all : ∀ s ∈ names, kchk s = true := by decide +kernel

theorem kchk_find {nm : List UInt8} (h : nm ∈ names) : ∃ s, findS nm = some s ∧ s.nm = nm ∧ (checkS (kW s)).isSome = true ∧ (checkS ((kW s).take (s.least.toNat - 1))).isSome = false ∧ (s.first = 0 ↔ keysOf (kW s) = []) ∧
    (s.first ≠ 0 → (keysOf (kW s)).getD 0 [] = [107, 49] ∧ checkS ((kW s).set 1 longK) = none) ∧ (s.most ≠ 0 → (!(checkS (kW s ++ [[120]])).isSome) = decide (s.most = s.least)) ∧
    (s.most = 0 → ∀ j, j < 20 → (checkS (kW s ++ List.replicate (2 * j) [109])).isSome = true) := by
  have hk := kchk_all nm h
  unfold kchk at hk
  cases hf : findS nm with
  | none => rw [hf] at hk; cases hk
  | some s =>
    rw [hf] at hk
    simp only [Bool.and_eq_true, Bool.or_eq_true, Bool.not_eq_true', beq_iff_eq, decide_eq_true_eq, decide_eq_false_iff_not, Option.isSome_eq_false_iff, Option.isNone_iff_eq_none] at hk
    obtain ⟨⟨⟨⟨⟨⟨⟨h1, h2⟩, h3⟩, h4⟩, h5⟩, h6⟩, h7⟩, h8⟩ := hk
    refine ⟨s, rfl, h1, h2, by rw [h3]; rfl, ?_, fun h0 => ⟨h5.resolve_left h0, h6.resolve_left h0⟩, fun h0 => h7.resolve_left h0, fun h0 j hj => ?_⟩
    · rw [← List.isEmpty_iff, ← h4]
      simp
    · rcases h8 with h8 | h8
      · exact (h8 h0).elim
      · exact all_range h8 hj

end Cm
end Go.Proofs.Ytibipalncknddaa
