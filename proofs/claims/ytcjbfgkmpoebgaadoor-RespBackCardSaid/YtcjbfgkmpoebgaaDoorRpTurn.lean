/- A row of bytes in which one is turned. -/
import Derived.Test.YtcjbfgkmpoebgaaDoorRpAppend
import Derived.Test.YtcjbfgkmpoebgaaDoorRpUniq
import Derived.Laws.BitsAllLaws
namespace Go.Proofs.YtcjbfgkmpoebgaaDoor
open Go.RowKit Go.Shelf
set_option linter.unusedVariables false
set_option linter.unusedSimpArgs false

theorem u8_xor (a b : UInt8) : bits .xor .u8 (a.toNat : Int) (b.toNat : Int) = ((a ^^^ b).toNat : Int) := by
  have ha := UInt8.toNat_lt a
  have hb := UInt8.toNat_lt b
  have hx : a.toNat ^^^ b.toNat < 2 ^ 8 := Nat.xor_lt_two_pow ha hb
  have h1 : (BitVec.ofInt 8 (a.toNat : Int)).toNat = a.toNat := by
    rw [BitVec.ofInt_natCast, BitVec.toNat_ofNat]; exact Nat.mod_eq_of_lt (by omega)
  have h2 : (BitVec.ofInt 8 (b.toNat : Int)).toNat = b.toNat := by
    rw [BitVec.ofInt_natCast, BitVec.toNat_ofNat]; exact Nat.mod_eq_of_lt (by omega)
  show IntKind.u8.wrap ((BitVec.ofInt 8 (a.toNat : Int) ^^^ BitVec.ofInt 8 (b.toNat : Int)).toNat : Int) = _
  rw [BitVec.toNat_xor, h1, h2, IntKind.wrap_u8, UInt8.toNat_xor]
  omega

theorem xor_ne {a b : UInt8} (hb : b ≠ 0) : a ^^^ b ≠ a := by
  intro h
  apply hb
  have h1 := congrArg (fun z => a ^^^ z) h
  simp only [← UInt8.xor_assoc, UInt8.xor_self, UInt8.zero_xor] at h1
  exact h1

theorem set_ne {P : List UInt8} {j : Nat} (hj : j < P.length) {y : UInt8} (hy : y ≠ P.getD j 0) : P.set j y ≠ P := by
  intro h
  have h1 := congrArg (fun l => l.getD j 0) h
  simp only [List.getD, List.getElem?_set, if_pos hj, if_pos, Option.getD_some] at h1
  exact hy (by simpa [List.getD] using h1)

theorem Bt.take {W : World} {a : Option Addr} {c : Nat} {P : List UInt8} (h : Bt (fun _ => True) W a c P) (m : Nat) : Bt (fun i => i < W.heap.size) W a c (P.take m) := by
  obtain ⟨h1, h2, h3⟩ := h.lt
  refine ⟨by rw [List.length_take]; omega, h2, ?_⟩
  rcases h3 with rfl | ⟨b, off, ha, hb, hlt, hc⟩
  · exact .inl (by simp)
  · refine .inr ⟨b, off, ha, hb, hlt, fun k hk => ?_⟩
    rw [List.length_take] at hk
    rw [hc k (by omega)]
    simp [List.getD, List.getElem?_take_of_lt (show k < m by omega)]

theorem Bt.turn {W : World} {g cap : Nat} {P : List UInt8} (h : Bt (fun _ => True) W (some ⟨g, 0, none⟩) cap P) {j : Nat} (hj : j < P.length) (y : UInt8) :
    Bt (fun i => i < (W.setCell ⟨g, j, none⟩ (.int .u8 (y.toNat : Int))).heap.size) (W.setCell ⟨g, j, none⟩ (.int .u8 (y.toNat : Int))) (some ⟨g, 0, none⟩) cap (P.set j y) := by
  obtain ⟨h1, h2, h3⟩ := h.lt
  refine ⟨by rw [List.length_set]; exact h1, h2, .inr ?_⟩
  rcases h3 with rfl | ⟨b, off, ha, hb, hlt, hc⟩
  · simp at hj
  · injection ha with ha
    injection ha with hb1 ho
    subst hb1
    subst ho
    refine ⟨g, 0, rfl, by simpa using hlt, by simpa using hlt, fun k hk => ?_⟩
    rw [List.length_set] at hk
    rw [Nat.zero_add]
    have hck := hc k hk
    rw [Nat.zero_add] at hck
    by_cases hkj : k = j
    · subst hkj
      have e : (P.set k y).getD k 0 = y := by simp [List.getD, hk]
      rw [e]
      exact World.cell?_setCell_same _ _ _ hck
    · have e : (P.set j y).getD k 0 = P.getD k 0 := by
        simp only [List.getD, List.getElem?_set]
        rw [if_neg (fun h => hkj h.symm)]
      rw [e, World.cell?_setCell_other _ _ _ _ (by first | (simp; done) | (simp; omega)), hck]

/-- a row of bytes of the call's own that is not empty. -/
theorem Buf.open_ {base : Nat} {bs : List UInt8} {v : Value} {W : World} (h : Buf base bs v W) (h0 : 0 < bs.length) :
    ∃ g cap, v = .slice (some ⟨g, 0, none⟩) bs.length cap ∧ base ≤ g ∧ Bt (fun _ => True) W (some ⟨g, 0, none⟩) cap bs ∧ ∀ k, k < bs.length → W.cell? ⟨g, k, none⟩ = some (.int .u8 ((bs.getD k 0).toNat : Int)) ∧ W.frozen? ⟨g, k, none⟩ = false := by
  obtain ⟨a, c, hv, hbt⟩ := h.bt
  rcases h.2 with ⟨_, hz⟩ | ⟨g, cap, cur, hv', hgB, hgg, -⟩
  · omega
  · have hvv := hv.symm.trans hv'
    injection hvv with ha hl hc
    subst ha
    subst hc
    refine ⟨g, c, hv, hgB, hbt.tt, fun k hk => ⟨?_, by simp [World.frozen?, hgg]⟩⟩
    rcases hbt.2.2 with rfl | ⟨b, off, ha, -, -, hcc⟩
    · simp at hk
    · injection ha with ha
      injection ha with hb1 ho
      subst hb1
      subst ho
      have := hcc k hk
      rwa [Nat.zero_add] at this

/-- what a byte turned says: an error, or another reply, or not all bytes. -/
theorem turned {R : Rp.R} {P C : List UInt8} (hP : Rp.enc R = P) (hl : C.length = P.length) (hne : C ≠ P) {y : Rp.R} {t : List UInt8} (h : getO C 0 = .ok y t) : t ≠ [] ∨ Rp.eqR y R = false := by
  by_cases ht : t = []
  · right
    subst ht
    cases he : Rp.eqR y R with
    | false => rfl
    | true =>
      have hy := Rp.eqR_eq _ _ he
      unfold getO at h
      rw [if_neg (by omega)] at h
      have := Rp.replyD_inv 8 _ _ _ h
      rw [List.append_nil, hy, hP] at this
      exact (hne (by simpa using this)).elim
  · exact .inl ht
end Go.Proofs.YtcjbfgkmpoebgaaDoor
