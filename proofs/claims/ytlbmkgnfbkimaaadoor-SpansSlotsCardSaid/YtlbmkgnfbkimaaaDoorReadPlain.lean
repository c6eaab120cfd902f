/- Plain: how the program reads a slot, a span, a list. No program in it. -/
import Derived.Test.YtlbmkgnfbkimaaaDoorSpMixPlain
import Derived.Test.YtlbmkgnfbkimaaaDoorSlotTagPlain
namespace Go.Proofs.YtlbmkgnfbkimaaaDoor
namespace Rs

/-- digits, one by one, as long as the number is a slot. -/
def go : Int → List UInt8 → Option Int
  | n, [] => some n
  | n, x :: r => if x.toNat < 48 ∨ 57 < x.toNat then none else if 16384 ≤ n * 10 + ((x.toNat : Int) - 48) then none else go (n * 10 + ((x.toNat : Int) - 48)) r

/-- the one text of a slot. -/
def slot (l : List UInt8) : Option Int := if l = [] ∨ (l.head? = some 48 ∧ l ≠ [48]) then none else go 0 l

theorem go_range : ∀ {l : List UInt8} {n m : Int}, go n l = some m → 0 ≤ n → n < 16384 → 0 ≤ m ∧ m < 16384
  | [], n, m, h, h0, h1 => by simp [go] at h; omega
  | x :: r, n, m, h, h0, h1 => by
    unfold go at h
    split at h
    · simp at h
    · split at h
      · simp at h
      · exact go_range h (by omega) (by omega)

theorem slot_range {l : List UInt8} {m : Int} (h : slot l = some m) : 0 ≤ m ∧ m < 16384 := by
  unfold slot at h
  split at h
  · simp at h
  · exact go_range h (by omega) (by omega)

/-- a span: a slot, or two that rise. -/
def span (l : List UInt8) : Option Sp.S :=
  match Tags.split 45 l with
  | none => (slot l).map fun n => (n, n)
  | some (a, b) => match slot a, slot b with
    | some n, some m => if n < m then some (n, m) else none
    | _, _ => none

theorem span_range {l : List UInt8} {s : Sp.S} (h : span l = some s) : 0 ≤ s.1 ∧ s.1 ≤ s.2 ∧ s.2 < 16384 := by
  unfold span at h
  split at h
  · simp only [Option.map_eq_some_iff] at h
    obtain ⟨n, hn, rfl⟩ := h
    have := slot_range hn
    simp only; omega
  · split at h
    · rename_i n m hn hm
      split at h
      · simp at h
        subst h
        have := slot_range hn
        have := slot_range hm
        simp only; omega
      · simp at h
    · simp at h

/-- lies a slot between the list's last span and this one? -/
def foll (l : List Sp.S) (s : Sp.S) : Bool := l.isEmpty || decide ((l.getD (l.length - 1) (0, 0)).2 + 1 < s.1)

/-- one piece more. -/
def step (l : List Sp.S) (x : List UInt8) : Option (List Sp.S) :=
  match span x with
  | none => none
  | some s => if foll l s = true then some (l ++ [s]) else none

def pieces (xs : List (List UInt8)) : Option (List Sp.S) := xs.foldlM step []

theorem pieces_snoc (xs : List (List UInt8)) (x : List UInt8) : pieces (xs ++ [x]) = (pieces xs).bind fun l => step l x := by
  unfold pieces
  rw [List.foldlM_append]
  cases h : List.foldlM step [] xs <;> simp

theorem pieces_fail {xs ys : List (List UInt8)} (h : pieces xs = none) : pieces (xs ++ ys) = none := by
  unfold pieces at *
  rw [List.foldlM_append, h]
  rfl

theorem foll_valid {l : List Sp.S} {s : Sp.S} (hl : Sp.Valid l) (h0 : 0 ≤ s.1) (h1 : s.1 ≤ s.2) (h2 : s.2 < 16384) (hf : foll l s = true) : Sp.Valid (l ++ [s]) := by
  refine Sp.valid_snoc.2 ⟨hl, h0, h1, h2, fun t ht => ?_⟩
  unfold foll at hf
  obtain ⟨m, z, rfl⟩ : ∃ m z, l = m ++ [z] := ⟨_, _, (List.dropLast_concat_getLast (List.ne_nil_of_mem ht)).symm⟩
  have e : ((m ++ [z]).getD ((m ++ [z]).length - 1) (0, 0)) = z := by simp [List.getD]
  rw [e] at hf
  simp at hf
  have hz := (Sp.valid_snoc.1 hl)
  rcases List.mem_append.1 ht with h | h
  · have := hz.2.2.2.2 t h; omega
  · rw [List.mem_singleton.1 h]; exact hf

theorem pieces_valid : ∀ {xs : List (List UInt8)} {l m : List Sp.S}, xs.foldlM step l = some m → Sp.Valid l → Sp.Valid m
  | [], l, m, h, hl => by simp at h; exact h ▸ hl
  | x :: xs, l, m, h, hl => by
    rw [List.foldlM_cons] at h
    cases hs : step l x with
    | none => rw [hs] at h; simp at h
    | some l' =>
      rw [hs] at h
      refine pieces_valid (xs := xs) h ?_
      unfold step at hs
      split at hs
      · simp at hs
      · rename_i s hsp
        split at hs
        · rename_i hf
          simp at hs
          subst hs
          have := span_range hsp
          exact foll_valid hl this.1 this.2.1 this.2.2 hf
        · simp at hs

end Rs
end Go.Proofs.YtlbmkgnfbkimaaaDoor
