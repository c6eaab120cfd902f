/- Fields set and taken away by numbers. No program in it. -/
import Derived.Test.YtfbfejeccfoioaaHsPlain
import Derived.Test.YtfbfejeccfoioaaHsGet
import Derived.Test.YtfbfejeccfoioaaDigPlain
namespace Go.Proofs.Ytfbfejeccfoioaa
namespace Hs
open Mk

/-- one of sixteen names. -/
def nm16 (k : Nat) : K := [UInt8.ofNat (97 + k)]
theorem nm16_inj {k j : Nat} (hk : k < 16) (hj : j < 16) (h : nm16 k = nm16 j) : k = j := by
  unfold nm16 at h
  injection h with h
  have := congrArg UInt8.toNat h
  rw [UInt8.toNat_ofNat', UInt8.toNat_ofNat'] at this
  omega

theorem digs_ne (u : Nat) : Dig.digs u ≠ [] := by
  by_cases h : u < 10
  · rw [Dig.digs_small h]; simp
  · rw [Dig.digs_step h]; simp

def stepR (st : List F × List K) (i : Nat) (b : UInt8) : List F × List K :=
  if 160 ≤ b.toNat then (del st.1 (nm16 (b.toNat % 16)), st.2.set (b.toNat % 16) [])
  else (set st.1 (nm16 (b.toNat % 16)) (Dig.digs (i + 1)), st.2.set (b.toNat % 16) (Dig.digs (i + 1)))
def runN (ns : List UInt8) : Nat → List F × List K
  | 0 => ([], List.replicate 16 [])
  | q + 1 => stepR (runN ns q) q (ns.getD q 0)

structure RInv (st : List F × List K) (q : Nat) : Prop where
  up : upF st.1
  len : st.1.length ≤ q
  has : st.2.length = 16
  get : ∀ k, k < 16 → get st.1 (nm16 k) = if st.2.getD k [] = [] then none else some (st.2.getD k [])
  ok : ∀ x ∈ st.1, x.1.length ≤ 300 ∧ x.2.length ≤ 300
  short : ∀ s ∈ st.2, s.length ≤ 20

theorem rinv_zero : RInv ([], List.replicate 16 []) 0 where
  up := List.Pairwise.nil
  len := Nat.le_refl _
  has := by simp
  get := fun k hk => by
    have : (List.replicate 16 ([] : K)).getD k [] = [] := by rw [List.getD, List.getElem?_replicate]; split <;> rfl
    rw [this]; rfl
  ok := by simp
  short := fun s hs => by rw [(List.mem_replicate.1 hs).2]; simp

theorem getD_set16 {l : List K} {j k : Nat} {v : K} (hj : j < l.length) : (l.set j v).getD k [] = if k = j then v else l.getD k [] := by
  simp only [List.getD, List.getElem?_set]
  by_cases h : k = j
  · subst h; simp [hj]
  · rw [if_neg fun e => h e.symm, if_neg h]

theorem rinv_step {st : List F × List K} {q : Nat} (h : RInv st q) (b : UInt8) (hq : q ≤ 1000) : RInv (stepR st q b) (q + 1) := by
  have hb : b.toNat % 16 < 16 := Nat.mod_lt _ (by decide)
  have hb' : b.toNat % 16 < st.2.length := by rw [h.has]; exact hb
  unfold stepR
  split
  · refine ⟨del_up _ h.up, ?_, by simp [h.has], fun k hk => ?_, fun x hx => h.ok x (del_mem hx), fun s hs => ?_⟩
    · have := del_le st.1 (nm16 (b.toNat % 16)); have := h.len; simp only; omega
    · simp only
      rw [get_del, getD_set16 hb', h.get k hk]
      by_cases hkb : k = b.toNat % 16
      · subst hkb; simp
      · rw [if_neg fun e => hkb (nm16_inj hk hb e), if_neg hkb]
    · rcases List.mem_or_eq_of_mem_set hs with hs | rfl
      · exact h.short s hs
      · simp
  · have hd : (Dig.digs (q + 1)).length ≤ 19 := Dig.digs_len20 (by omega)
    refine ⟨set_up _ _ h.up, ?_, by simp [h.has], fun k hk => ?_, fun x hx => ?_, fun s hs => ?_⟩
    · have := set_le st.1 (nm16 (b.toNat % 16)) (Dig.digs (q + 1)); have := h.len; simp only; omega
    · simp only
      rw [get_set, getD_set16 hb', h.get k hk]
      by_cases hkb : k = b.toNat % 16
      · subst hkb; simp [digs_ne]
      · rw [if_neg fun e => hkb (nm16_inj hk hb e), if_neg hkb]
    · rcases set_mem hx with rfl | hx
      · exact ⟨by simp [nm16], by simp only; omega⟩
      · exact h.ok x hx
    · rcases List.mem_or_eq_of_mem_set hs with hs | rfl
      · exact h.short s hs
      · omega

theorem rinv (ns : List UInt8) : ∀ q, q ≤ 1000 → RInv (runN ns q) q
  | 0, _ => rinv_zero
  | q + 1, hq => rinv_step (rinv ns q (by omega)) _ (by omega)

theorem RInv.del_len {st : List F × List K} {q k : Nat} (h : RInv st q) (hk : k < 16) : (del st.1 (nm16 k)).length = if st.2.getD k [] = [] then st.1.length else st.1.length - 1 := by
  rw [Hs.del_len _ _ h.up, h.get k hk]
  by_cases h0 : st.2.getD k [] = []
  · rw [if_pos h0, if_pos h0]; rfl
  · rw [if_neg h0, if_neg h0]; rfl
theorem RInv.pos {st : List F × List K} {q k : Nat} (h : RInv st q) (hk : k < 16) (h0 : st.2.getD k [] ≠ []) : 1 ≤ st.1.length := by
  have := h.get k hk
  rw [if_neg h0] at this
  cases hl : st.1 with
  | nil => rw [hl] at this; simp [Hs.get] at this
  | cons a l => simp
theorem RInv.set_len {st : List F × List K} {q k : Nat} (h : RInv st q) (hk : k < 16) (v : K) : (set st.1 (nm16 k) v).length = if st.2.getD k [] = [] then st.1.length + 1 else st.1.length := by
  rw [Hs.set_len, h.del_len hk]
  by_cases h0 : st.2.getD k [] = []
  · rw [if_pos h0, if_pos h0]
  · have := h.pos hk h0
    rw [if_neg h0, if_neg h0]; omega
theorem RInv.ris {st : List F × List K} {q : Nat} (h : RInv st q) (hq : q ≤ 80) : risF st.1 = true := risF_of h.up (by have := h.len; omega) h.ok
theorem RInv.getP {st : List F × List K} {q k : Nat} (h : RInv st q) (hk : k < 16) : getP st.1 (nm16 k) = (st.2.getD k [], !decide (st.2.getD k [] = [])) := by
  unfold Hs.getP
  rw [h.get k hk]
  by_cases h0 : st.2.getD k [] = []
  · rw [if_pos h0, decide_eq_true h0, h0]; rfl
  · rw [if_neg h0, decide_eq_false h0]; rfl
theorem RInv.okF {st : List F × List K} {q : Nat} (h : RInv st q) : ∀ x ∈ st.1, OkF x := fun x hx => ⟨by have := (h.ok x hx).1; omega, by have := (h.ok x hx).2; omega⟩
end Hs
end Go.Proofs.Ytfbfejeccfoioaa
