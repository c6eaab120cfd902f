/- Texts and their bytes. Plain mathematics of the tag of chapter 1: what stands between the first opening brace and the first closing brace behind it. No program in it. The contract of caravanref1.Tag. The slot of a key; the contract of caravanref1.Slot. The contract of the reference's In (11.1). DERIVED: THE SHELF's CONTRACTS AT THIS DUMP, IN PLAIN WORDS (tools/lay-plain.mjs out of 'TryShelf.lean', which tools/lay-shelf.mjs wrote): THE SAME DECLARATIONS UNDER THE SAME NAMES: 'import', 'namespace', 'open', 'def', 'theorem' AND NOTHING ELSE: no command of the shelf's: FOR A HAND-IN. Each laying: the table of numbers ('.._ren') and one theorem, a field a fact of the dump's own or the kernel's comparison; each contract: ONE APPLICATION. The contract of strings.Cut at one byte. The contracts of strings.Cut at one byte, slot.Tag. The contract of slot.Of. A region that draws its order within a round of a range over a function, walked by the laws for regions outside of rounds: each operation but a defer is the same there. No program in it. -/
import Derived.ProofKit
import Derived.Test.YtihleddhjmejoaaProg
import Derived.Lib.Bytealg
import Derived.WalkKit
import Derived.WalkLawsBesides
import Derived.WalkSpells
import Derived.Lib.Hide
import Derived.Outline
import Derived.Below
import Derived.Deep.QuietTactic
import Derived.BigQuiet
import Derived.Lib.IndexBytes
import Derived.Test.YtihleddhjmejoaaMD30
import Derived.Lib.SlBytesConst
import Derived.Lib.ConvBytes
import Derived.Laws.IdiomStrings
import Derived.Test.YtihleddhjmejoaaMD05
import Derived.Shelf.Strings.Search2
import Derived.Ground.NamesProg
import Derived.Test.YtihleddhjmejoaaMD06
import Derived.OrdersIn
import Derived.TacticsIn
import Derived.RangeFuncCalls
namespace Go.Proofs.Ytihleddhjmejoaa
theorem str_eq {x : ByteArray} {l : List UInt8} (h : x.data.toList = l) : x = ⟨l.toArray⟩ := by
  cases x; subst h; simp

theorem str_eq' {x : ByteArray} {l : List UInt8} (h : l = x.data.toList) : (⟨l.toArray⟩ : ByteArray) = x := by
  cases x; subst h; simp
end Go.Proofs.Ytihleddhjmejoaa
namespace Go.Proofs.Ytihleddhjmejoaa
namespace Tags

/-- a list of bytes parted at the first c. -/
def split (c : UInt8) : List UInt8 → Option (List UInt8 × List UInt8)
  | [] => none
  | x :: r => if x = c then some ([], r) else (split c r).map fun p => (x :: p.1, p.2)

def tag (k : List UInt8) : List UInt8 :=
  match split 123 k with
  | none => k
  | some p =>
    match split 125 p.2 with
    | none => k
    | some q => if q.1 = [] then k else q.1

theorem split_some {c : UInt8} : ∀ {l a b : List UInt8}, split c l = some (a, b) → l = a ++ c :: b ∧ c ∉ a ∧ Lib.indexByte l c = a.length
  | [], a, b, h => by simp [split] at h
  | x :: r, a, b, h => by
    simp only [split] at h
    by_cases hx : x = c
    · subst hx
      simp at h
      obtain ⟨rfl, rfl⟩ := h
      simp [Lib.indexByte]
    · rw [if_neg hx] at h
      cases hr : split c r with
      | none => simp [hr] at h
      | some p =>
        obtain ⟨a', b'⟩ := p
        simp [hr] at h
        obtain ⟨rfl, rfl⟩ := h
        obtain ⟨h1, h2, h3⟩ := split_some hr
        refine ⟨by rw [h1]; rfl, ?_, ?_⟩
        · intro hm
          rcases List.mem_cons.1 hm with h | h
          · exact hx h.symm
          · exact h2 h
        · unfold Lib.indexByte
          have : (x == c) = false := by simpa using hx
          rw [this, h3]
          have h4 : ((a'.length : Int) == -1) = false := by
            rw [beq_eq_false_iff_ne]; omega
          simp [h4]

theorem split_none {c : UInt8} : ∀ {l : List UInt8}, split c l = none → c ∉ l ∧ Lib.indexByte l c = -1
  | [], _ => by simp [Lib.indexByte]
  | x :: r, h => by
    simp only [split] at h
    by_cases hx : x = c
    · rw [if_pos hx] at h; simp at h
    · rw [if_neg hx] at h
      have hr : split c r = none := by
        cases hr : split c r with
        | none => rfl
        | some p => simp [hr] at h
      obtain ⟨h1, h2⟩ := split_none hr
      refine ⟨?_, ?_⟩
      · intro hm
        rcases List.mem_cons.1 hm with h | h
        · exact hx h.symm
        · exact h1 h
      · unfold Lib.indexByte
        have : (x == c) = false := by simpa using hx
        rw [this, h2]; rfl

theorem split_append {c : UInt8} {a b : List UInt8} (h : c ∉ a) : split c (a ++ c :: b) = some (a, b) := by
  induction a with
  | nil => simp [split]
  | cons x a ih =>
    have hx : x ≠ c := fun e => h (by simp [e])
    have ha : c ∉ a := fun e => h (by simp [e])
    simp [split, hx, ih ha]

theorem split_absent {c : UInt8} {l : List UInt8} (h : c ∉ l) : split c l = none := by
  induction l with
  | nil => rfl
  | cons x a ih =>
    have hx : x ≠ c := fun e => h (by simp [e])
    have ha : c ∉ a := fun e => h (by simp [e])
    simp [split, hx, ih ha]

theorem tag_len (k : List UInt8) : (tag k).length ≤ k.length := by
  unfold tag
  split
  · exact Nat.le_refl _
  · rename_i p hp
    split
    · exact Nat.le_refl _
    · rename_i q hq
      split
      · exact Nat.le_refl _
      · have h1 := (split_some (a := p.1) (b := p.2) hp).1
        have h2 := (split_some (a := q.1) (b := q.2) hq).1
        have h3 := congrArg List.length h1
        have h4 := congrArg List.length h2
        simp at h3 h4
        omega

theorem split_at {c : UInt8} {l : List UInt8} {n : Nat} (h : n < l.length) (hn : c ∉ l.take n) (hc : l[n] = c) : split c l = some (l.take n, l.drop (n + 1)) := by
  have e : l = l.take n ++ c :: l.drop (n + 1) := by
    rw [← hc, List.getElem_cons_drop, List.take_append_drop]
  have := split_append (b := l.drop (n + 1)) hn
  rw [← e] at this
  exact this

theorem notin_succ {c : UInt8} {l : List UInt8} {n : Nat} (h : n < l.length) (hn : c ∉ l.take n) (hc : l[n] ≠ c) : c ∉ l.take (n + 1) := by
  rw [List.take_succ_eq_append_getElem h]
  intro hm
  rcases List.mem_append.1 hm with h1 | h1
  · exact hn h1
  · simp at h1; exact hc h1.symm

theorem tag_no {l : List UInt8} (h : 123 ∉ l) : tag l = l := by
  unfold tag; rw [split_absent h]

theorem tag_open {l : List UInt8} {n : Nat} (h : n < l.length) (hn : 123 ∉ l.take n) (hc : l[n] = 123) (hb : 125 ∉ l.drop (n + 1)) : tag l = l := by
  unfold tag; rw [split_at h hn hc]; simp only; rw [split_absent hb]

theorem tag_empty {l : List UInt8} {n : Nat} (h : n < l.length) (hn : 123 ∉ l.take n) (hc : l[n] = 123) (h1 : n + 1 < l.length) (hb : l[n + 1] = 125) : tag l = l := by
  have hd : 0 < (l.drop (n + 1)).length := by simp; omega
  have := split_at (c := 125) hd (by simp) (by simpa using hb)
  unfold tag; rw [split_at h hn hc]; simp only; rw [this]; simp

theorem tag_found {l : List UInt8} {n m : Nat} (h : n < l.length) (hn : 123 ∉ l.take n) (hc : l[n] = 123) (h0 : n + 1 < m) (h1 : m < l.length) (hno : 125 ∉ (l.drop (n + 1)).take (m - (n + 1))) (hb : l[m] = 125) :
    tag l = (l.drop (n + 1)).take (m - (n + 1)) := by
  have hd : m - (n + 1) < (l.drop (n + 1)).length := by simp; omega
  have := split_at (c := 125) hd hno (by
    rw [List.getElem_drop]
    have e : n + 1 + (m - (n + 1)) = m := by omega
    simp only [e]; exact hb)
  unfold tag; rw [split_at h hn hc]; simp only; rw [this]; simp only
  rw [if_neg]
  intro he
  have := congrArg List.length he
  simp at this
  omega

theorem notin_drop_succ {c : UInt8} {l : List UInt8} {n m : Nat} (h0 : n ≤ m) (h1 : m < l.length) (hno : c ∉ (l.drop n).take (m - n)) (hb : l[m] ≠ c) : c ∉ (l.drop n).take (m + 1 - n) := by
  have hd : m - n < (l.drop n).length := by simp; omega
  have e : m + 1 - n = (m - n) + 1 := by omega
  rw [e]
  refine notin_succ hd hno ?_
  rw [List.getElem_drop]
  have e : n + (m - n) = m := by omega
  simp only [e]; exact hb

theorem tag_within {a t b : List UInt8} (ha : 123 ∉ a) (ht : 125 ∉ t) (h0 : t ≠ []) : tag (a ++ 123 :: (t ++ 125 :: b)) = t := by
  unfold tag
  rw [split_append ha]; simp only; rw [split_append ht]; simp [h0]

theorem tag_nothing {a b : List UInt8} (ha : 123 ∉ a) : tag (a ++ 123 :: 125 :: b) = a ++ 123 :: 125 :: b := by
  have : split 125 (125 :: b) = some ([], b) := by simp [split]
  unfold tag
  rw [split_append ha]; simp only; rw [this]; simp

theorem tag_noend {a t : List UInt8} (ha : 123 ∉ a) (ht : 125 ∉ t) : tag (a ++ 123 :: t) = a ++ 123 :: t := by
  unfold tag
  rw [split_append ha]; simp only; rw [split_absent ht]

theorem u8_eq {x : UInt8} {k : Nat} (hk : k < 256) (h : ((x.toNat : Int) == (k : Int)) = true) : x = UInt8.ofNat k := by
  have h1 : (x.toNat : Int) = k := by simpa using h
  have h2 : x.toNat = k := by omega
  apply UInt8.toNat_inj.1
  rw [h2]; simp; omega

theorem u8_ne {x : UInt8} {k : Nat} (hk : k < 256) (h : ((x.toNat : Int) == (k : Int)) = false) : x ≠ UInt8.ofNat k := by
  intro e
  subst e
  have h2 : (UInt8.ofNat k).toNat = k := by simp; omega
  rw [h2] at h
  simp at h

end Tags
end Go.Proofs.Ytihleddhjmejoaa
namespace Go.Proofs.Ytihleddhjmejoaa
open Go.RowKit

-- left out: refTag_walk
end Go.Proofs.Ytihleddhjmejoaa
namespace Go.Proofs.Ytihleddhjmejoaa
open Go.RowKit

/-- the slot of a key. -/
def slotOf (k : List UInt8) : Nat := Crc16.crc (Tags.tag k) % 16384

theorem slotOf_lt (k : List UInt8) : slotOf k < 16384 := Nat.mod_lt _ (by decide)

-- left out: refSlot_walk
end Go.Proofs.Ytihleddhjmejoaa
namespace Go.Proofs.Ytihleddhjmejoaa
open Go.RowKit Go.Shelf
attribute [local go_sem] Oper.semAt_some
set_option linter.unusedVariables false
set_option linter.unusedSimpArgs false

theorem infoStr : (Try.prog.info? 9).map (fun i => (i.zero, i.size, i.bytes)) = some (some (.string ⟨#[]⟩), 1, 16) := by kernel_rfl
/-- the keys of a slot. -/
def inS (z : Int) (ks : List (List UInt8)) : List (List UInt8) := ks.filter fun k => decide ((slotOf k : Int) = z)
theorem inS_snoc (z : Int) (ks : List (List UInt8)) (k : List UInt8) : inS z (ks ++ [k]) = if (slotOf k : Int) = z then inS z ks ++ [k] else inS z ks := by
  unfold inS
  rw [List.filter_append]
  by_cases h : (slotOf k : Int) = z
  · rw [if_pos h, List.filter_cons_of_pos (by simpa using h)]; rfl
  · rw [if_neg h, List.filter_cons_of_neg (by simpa using h)]; simp
theorem inS_len (z : Int) (ks : List (List UInt8)) : (inS z ks).length ≤ ks.length := List.length_filter_le _ _

-- left out: in_any
end Go.Proofs.Ytihleddhjmejoaa
namespace Go.Proofs
open Go.Shelf
end Go.Proofs
namespace Go.Proofs.Ytihleddhjmejoaa
open Go.RowKit

-- left out: slcut_none
-- left out: slcut_some
-- left out: cut_none
-- left out: cut_some
end Go.Proofs.Ytihleddhjmejoaa
namespace Go.Proofs.Ytihleddhjmejoaa
open Go.RowKit

-- left out: tag_walk
end Go.Proofs.Ytihleddhjmejoaa
namespace Go.Proofs.Ytihleddhjmejoaa
open Go.RowKit

theorem below_bytesWorld (w : World) (e : TypeId) (s : ByteArray) : Below w.heap.size w (Lib.bytesWorld w e s) :=
  ⟨rfl, rfl, rfl, by rw [Lib.bytesWorld_size]; omega, fun k hk => Lib.bytesWorld_at_old w e s k hk⟩

theorem bytes_bytesWorld (w : World) (e : TypeId) (s : ByteArray) : Bytes (Lib.bytesWorld w e s) (some ⟨w.heap.size, 0, none⟩) s.data.toList :=
  .inr ⟨_, 0, rfl, fun k hk => by
    rw [Nat.zero_add]
    exact Lib.bytesWorld_cell w e s k (by simpa using hk)⟩

-- left out: crc_str
-- left out: of_walk
end Go.Proofs.Ytihleddhjmejoaa
namespace Go.Proofs.Ytihleddhjmejoaa

/-- no operation is a defer or asks for a row. -/
def noDeferR (ops : Array Oper) : Bool := ops.toList.all fun o => match o.op with | .defer _ => false | _ => true

set_option linter.unusedVariables false
section
variable {l n : Nat} {P : Program} {ops : Array Oper} {Q : Exit → Act → World → Prop}

theorem rows_wide {row : String} {args : Array Value} {w : World} {R : Value → World → Prop} (h : Rows P row args w R) : Go.RowsIn (Fence.wide.inRound l) n P row args w R := by
  intro c cs _
  obtain ⟨v, w', r, s⟩ := h c cs
  exact ⟨v, w', r, stepsIn_wide.2 s⟩

theorem wpIn_of_wp {o : Oper} {a : Act} {w : World} {K : Act → World → Prop} (hd : ∀ c, o.op ≠ .defer c) (h : o.wp P a w K Q) : o.wpIn (Fence.wide.inRound l) n P a w K Q := by
  unfold Oper.wp at h
  unfold Oper.wpIn
  refine ⟨fun _ _ => trivial, ?_⟩
  rw [Fence.inRound_round, Oper.semAt_some _ _ _ hd]
  generalize (execOp a.eval o).run P w = r at *
  cases r with
  | ok x w' =>
    cases x <;> simp only [Oper.upon] at h <;> simp only [Oper.uponIn]
    case value u => exact h
    case skip => exact h
    case defer d => exact h
    case enter f args => exact ⟨fun h => (by simp [Fence.wide] at h), CallsIn.inRound l (callsIn_wide.2 h)⟩
    case row row args => exact ⟨fun h => (by simp [Fence.wide] at h), rows_wide h⟩
  | halt x w' => cases x <;> simp only [Oper.upon] at h <;> simp only [Oper.uponIn] <;> exact h

theorem wpOpIn_of_wpOp {i : Nat} {a : Act} {w : World} {K K' : Act → World → Prop} (hlo : ¬ LetsOut Q) (hd : noDeferR ops = true) (hK : ∀ a w, K a w → K' a w) (h : wpOp P ops Q i K a w) : wpOpIn (Fence.wide.inRound l) n P ops Q i K' a w := by
  unfold wpOp at h
  unfold wpOpIn
  split
  · rename_i ho; simp only [ho] at h; exact hK _ _ h
  · rename_i o ho
    simp only [ho] at h
    have hm : o ∈ ops.toList := by
      rw [Array.mem_toList_iff]
      exact Array.mem_of_getElem? ho
    have hd' : ∀ c, o.op ≠ .defer c := by
      intro c hc
      have := List.all_eq_true.1 hd o hm
      simp [hc] at this
    split
    · rename_i hw
      simp only [hw, if_true] at h
      exact Oper.wpIn_mono hK (wpIn_of_wp hd' (h.resolve_right fun h => hlo h.2))
    · rename_i hw
      simp only [hw] at h
      exact ⟨fun _ _ => trivial, hK _ _ h⟩

theorem wpAnyIn_of_wpAny (hlo : ¬ LetsOut Q) (hd : noDeferR ops = true) {md : Region.Mode} : ∀ (fuel : Nat) (listed : Array Bool) (a : Act) (w : World), wpAny P md ops Q fuel listed a w → wpAnyIn (Fence.wide.inRound l) n P md ops Q fuel listed a w
  | 0, _, _, _, h => h
  | fuel + 1, listed, a, w, h => ⟨h.1, fun i hi => wpOpIn_of_wpOp hlo hd (fun a' w' h' => wpAnyIn_of_wpAny hlo hd fuel _ a' w' h') (h.2 i hi)⟩

/-- the beginning of a region that draws its order, in a round. -/
theorem wpIn_region_L {id : Nat} {a : Act} {w : World} (S : World → Prop) (f : Nat) (hm : P.follows .mixedOrders = true) (hlo : ¬ LetsOut Q) (hd : noDeferR ops = true)
    (h : wpAnyL P .any ops Q S f ops.size (Array.replicate ops.size false) a w.drew) : (Code.region id ops true).wpIn (Fence.wide.inRound l) n P Q a w :=
  wpIn_region_any hm (wpAnyIn_of_wpAny hlo hd _ _ _ _ (wpAny_of_L _ _ _ _ h))
end
end Go.Proofs.Ytihleddhjmejoaa
