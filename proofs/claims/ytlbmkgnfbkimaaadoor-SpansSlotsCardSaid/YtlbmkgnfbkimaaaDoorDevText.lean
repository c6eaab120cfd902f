/- The contract of spans.Text. -/
import Derived.Test.YtlbmkgnfbkimaaaDoorBuild
import Derived.Test.YtlbmkgnfbkimaaaDoorSpText
import Derived.Lib.LaidTab
namespace Go.Proofs.YtlbmkgnfbkimaaaDoor
open Go.RowKit Go.Shelf
attribute [local go_sem] Oper.semAt_some

/-- Go's own table of powers of ten lies as its text lays it. -/
def Tab (w : World) : Prop := Lib.TabIs Tryd.prog w "internal/strconv.uint64pow10" .u64 Lib.pow10Tab

theorem tab_lt {w : World} (h : Tab w) : ∃ g, Tryd.prog.globalNamed "internal/strconv.uint64pow10" = some g ∧ g < w.heap.size := by
  unfold Tab Lib.TabIs World.var? at h
  cases hg : Tryd.prog.globalNamed "internal/strconv.uint64pow10" with
  | none => simp [hg] at h
  | some g =>
    refine ⟨g, rfl, ?_⟩
    simp only [hg, Option.bind_some] at h
    rcases Nat.lt_or_ge g w.heap.size with h' | h'
    · exact h'
    · rw [Array.getElem?_eq_none h'] at h; simp at h

theorem tab_later {w w' : World} (h : Tab w) (hb : Below w.heap.size w w') : Tab w' := by
  obtain ⟨g, hg, hlt⟩ := tab_lt h
  unfold Tab Lib.TabIs World.var? at h ⊢
  simp only [hg, Option.bind_some] at h ⊢
  rw [hb.block g hlt]
  exact h

theorem digs_dec : ∀ u : Nat, Dig.digs u = Lib.decDigits u := by
  intro u
  induction u using Nat.strongRecOn with
  | ind u ih =>
    rw [Dig.digs, Lib.decDigits]
    by_cases h : u < 10
    · rw [if_pos h, dif_pos h]
    · rw [if_neg h, dif_neg h, ih _ (by omega)]

theorem itoa_dec {n : Int} (h : 0 ≤ n) : Lib.itoa n = Dig.dec n := by
  unfold Lib.itoa Dig.dec
  rw [if_neg (by omega), if_neg (by omega), digs_dec]

theorem digs_ne (u : Nat) : Dig.digs u ≠ [] := by
  rw [Dig.digs]
  split <;> simp

theorem dec_ne {n : Int} (h : 0 ≤ n) : Dig.dec n ≠ [] := by
  unfold Dig.dec
  rw [if_neg (by omega)]
  exact digs_ne _

theorem textTo_app (m : List Sp.S) (s : Sp.S) : ∀ k, k ≤ m.length → textTo (m ++ [s]) k = textTo m k := by
  intro k
  induction k with
  | zero => intro _; rfl
  | succ k ih =>
    intro hk
    rw [textTo, textTo, ih (by omega)]
    congr 2
    simp [List.getD, List.getElem?_append, show k < m.length by omega]

theorem textS_snoc (m : List Sp.S) (s : Sp.S) : textS (m ++ [s]) = textS m ++ (if 0 < m.length then [44] else []) ++ oneT s := by
  unfold textS
  rw [show (m ++ [s]).length = m.length + 1 by simp, textTo, textTo_app m s _ (Nat.le_refl _)]
  congr 2
  simp [List.getD]

theorem oneT_len (x : Sp.V) : 0 < (oneT x.1).length ∧ (oneT x.1).length ≤ 11 := by
  have h := x.2
  have h1 := dec_len (n := x.1.1) (by omega) (by omega)
  have h2 := dec_len (n := x.1.2) (by omega) (by omega)
  have h3 := List.length_pos_iff.2 (dec_ne (n := x.1.1) (by omega))
  unfold oneT
  rw [List.length_append]
  split <;> simp <;> omega

theorem textS_len (pre : List Sp.V) : (textS (Sp.bare pre)).length ≤ 12 * pre.length ∧ (0 < pre.length → 0 < (textS (Sp.bare pre)).length) := by
  induction pre using Sp.snoc_ind with
  | h0 => simp [textS, textTo]
  | hs l p ih =>
    have e : Sp.bare (l ++ [p]) = Sp.bare l ++ [p.1] := by simp
    have := oneT_len p
    rw [e, textS_snoc]
    simp only [List.length_append, List.length_map]
    split <;> simp <;> omega

theorem itoa_any (n : Int) (h0 : 0 ≤ n) (h1 : n < 16384) (w : World) (ht : Tab w) :
    Calls Tryd.prog 38 #[.int .i64 n] w fun e w' => e = .returned (.string ⟨(Dig.dec n).toArray⟩) ∧ Keeps (fun _ => True) w w' := by
  refine (Tryd.strconv_Itoa n (by omega) (by omega) w ht).mono ?_
  rintro e w' ⟨he, k, os, rfl⟩
  refine ⟨by rw [he, itoa_dec h0], ?_⟩
  have h1 : ∀ k, Keeps (fun _ => True) w (w.drewN k) := by
    intro k
    induction k with
    | zero => exact Keeps.refl _ _
    | succ k ih => exact ⟨rfl, rfl, rfl, Nat.le_refl _, fun _ _ _ => rfl⟩
  have hd := h1 k
  refine ⟨hd.os, hd.tape, hd.output, ?_, fun i hi _ => ?_⟩
  · have := hd.size
    show w.heap.size ≤ ((w.drewN k).heap ++ os).size
    simp
  · show ((w.drewN k).heap ++ os)[i]? = _
    rw [Array.getElem?_append_left (Nat.lt_of_lt_of_le hi hd.size)]
    exact hd.block i hi trivial

/-- where a round of Text stands: A where it began, W now, these bytes in the builder. -/
def TSt (w A : World) (b : Nat) (O Dt : Nat → Prop) (bs : List UInt8) (W : World) : Prop :=
  ∃ v, Bld (w.heap.size + 1) w.heap.size bs v W ∧ (∀ g, v.ownBlock = some g → O g ∨ A.heap.size ≤ g) ∧ Keeps (RoundS Dt (fun _ => False) b O) A W ∧ Below w.heap.size w W

theorem bld_kept {base C : Nat} {bs : List UInt8} {v : Value} {W W' : World} {S : Nat → Prop} (h : Bld base C bs v W) (hk : Keeps S W W') (hC : S C) (hv : ∀ g, v.ownBlock = some g → S g) : Bld base C bs v W' := by
  obtain ⟨h1, ⟨p, hp, hh⟩, h3⟩ := h
  exact ⟨h1, ⟨p, hp, hk.heap hh hC⟩, owns_kept h3 hk hv⟩

theorem TSt.later {w A : World} {b : Nat} {O Dt : Nat → Prop} {bs : List UInt8} {W W' : World} (h : TSt w A b O Dt bs W) (hk : Keeps (fun _ => True) W W') : TSt w A b O Dt bs W' := by
  obtain ⟨v, h1, h2, h3, h4⟩ := h
  exact ⟨v, bld_kept h1 hk trivial (fun _ _ => trivial), h2, h3.trans (hk.mono fun _ _ _ => trivial), h4.trans (hk.below h4.size fun _ _ => trivial)⟩

theorem TSt.write {w A : World} {b : Nat} {O Dt : Nat → Prop} {bs bs' : List UInt8} {v : Value} {W W' : World} (hO : ∀ k, O k → b + 2 ≤ k ∧ k < A.heap.size) (hDt : ∀ k, Dt k → w.heap.size < k ∧ k < b) (hb : w.heap.size < b)
    (h1 : Bld (w.heap.size + 1) w.heap.size bs v W) (h2 : ∀ g, v.ownBlock = some g → O g ∨ A.heap.size ≤ g) (h3 : Keeps (RoundS Dt (fun _ => False) b O) A W) (h4 : Below w.heap.size w W) (ho : BOut (w.heap.size + 1) w.heap.size bs' v W W') : TSt w A b O Dt bs' W' := by
  obtain ⟨v', e1, e2, e3⟩ := ho
  have hr := h1.2.2
  refine ⟨v', e1, ?_, ?_, h4.trans (e2.below h4.size fun k hk => ⟨by omega, fun e => by have := (hr.lt k e.symm).1; omega⟩)⟩
  · intro g hg
    rcases e3 with e | ⟨g', e, hge⟩
    · exact h2 g (e ▸ hg)
    · rw [hg] at e
      cases e
      exact .inr (Nat.le_trans h3.size hge)
  · refine ⟨e2.os.trans h3.os, e2.tape.trans h3.tape, e2.output.trans h3.output, Nat.le_trans h3.size e2.size, fun k hk hs => ?_⟩
    refine (e2.block k (Nat.lt_of_lt_of_le hk h3.size) ⟨?_, fun e => ?_⟩).trans (h3.block k hk hs)
    · rintro rfl
      rcases hs with h | h | h
      · have := hDt _ h; omega
      · exact h
      · omega
    · rcases h2 k e.symm with h | h
      · rcases hs with h' | h' | h'
        · have := hDt k h'; have := hO k h; omega
        · exact h'
        · exact h'.2 h
      · omega

end Go.Proofs.YtlbmkgnfbkimaaaDoor
