/- Arguments that are slices of structs, opened: what is common. Arguments of type []api.Span and []api.Claim, opened. -/
import Derived.Test.YtahmddopbmjepaaDoorProg
import Derived.ProofKit
import Derived.Deep.DeepHandedRow
import Derived.Deep.Fields
import Derived.Deep.Slices
import Derived.Test.YtahmddopbmjepaaDoorRB25
import Derived.Test.YtahmddopbmjepaaDoorRB12
import Derived.Deep.Fields1
namespace Go.Proofs.YtahmddopbmjepaaDoor
open Go.ChangeShapes Go.WideShapes Go.ChangeAt Go.RowKit
open Go.Deep (hone_of)
section
open Go.Deep
variable {H : Type} {enc : TypeId × Value → H} {P : Program} {w : World} {base : Nat} {spare : Nat → Bool} {held : Bool}
theorem open_slice_fields' {t e : TypeId} {fs : Array Field} {fuel : Nat} {cs : List Value} {x : DataW H × List MemPlace} (ht : P.underlying t = some (.slice e)) (he : P.underlying e = some (.struct fs))
    (hone : oneCellFields P fs = true) (hC : P.cellsOf e = fs.size) (h : DataW.trod enc P w base spare held fuel t cs = some x) :
    (cs = [.slice none 0 0]) ∨
    ∃ (a : Addr) (len cap m : Nat), cs = [.slice (some a) len cap] ∧ len ≤ cap ∧ cap ≤ maxLen ∧ len ≤ m ∧
      ∀ i, i < m → ∀ (j : Nat) (f : Field), fs[j]? = some f → ∃ (v : Value) (y : DataW H × List MemPlace) (n : Nat), w.cell? (a.add (i * fs.size + j)) = some v ∧ DataW.trod enc P w base spare held n f.type [v] = some y := by
  rcases open_slice ht h with h0 | ⟨a, len, cap, m, n, D, Pl, hcs, hb, hl, hm, hmm, hx, hi⟩
  · exact .inl h0.1
  · refine .inr ⟨a, len, cap, m, hcs, hl, hm, by rw [hmm]; split <;> omega, fun i him => ?_⟩
    obtain ⟨cs', hc, ht'⟩ := hi i him
    rw [hC] at hc
    obtain ⟨ys, n', hn', hy, hlen, hyl, hf⟩ := DataW.trod_struct he ht'
    obtain ⟨_, hcl, hat⟩ := World.cells?_some hc
    intro j f hj
    obtain ⟨ho, hk⟩ := hone_of hone j f hj
    have hjl : j < fs.size := (Array.getElem?_eq_some_iff.1 hj).1
    have hcell := hat j hjl
    have hv : cs'[j]? = some (cs'[j]'(by omega)) := List.getElem?_eq_getElem (by omega)
    have h1 := hf j f hj
    rw [ho, hk] at h1
    have hone' : (cs'.drop j).take 1 = [cs'[j]'(by omega)] := by
      rw [List.drop_eq_getElem_cons (by omega)]
      rfl
    rw [hone'] at h1
    have hys : ys[j]? = some (ys[j]'(by omega)) := List.getElem?_eq_getElem (by omega)
    refine ⟨_, _, n', ?_, h1.trans hys⟩
    rw [← Go.Deep.add_add, hcell, hv]
end
theorem list_of {α : Type} (d : α) (P : Nat → α → Prop) : ∀ n, (∀ i, i < n → ∃ s, P i s) → ∃ l : List α, l.length = n ∧ ∀ i, i < n → P i (l.getD i d)
  | 0, _ => ⟨[], rfl, by simp⟩
  | n + 1, h => by
    obtain ⟨l, hl, hp⟩ := list_of d P n (fun i hi => h i (by omega))
    obtain ⟨s, hs⟩ := h n (by omega)
    refine ⟨l ++ [s], by simp [hl], fun i hi => ?_⟩
    rcases Nat.lt_or_ge i n with h1 | h1
    · have := hp i h1
      simpa [List.getD, List.getElem?_append, hl, h1] using this
    · obtain rfl : i = n := by omega
      simpa [List.getD, List.getElem?_append, hl] using hs
end Go.Proofs.YtahmddopbmjepaaDoor
namespace Go.Proofs.YtahmddopbmjepaaDoor
open Go.ChangeShapes Go.WideShapes Go.ChangeAt Go.RowKit

section
open Go.Deep
variable {H : Type} {enc : TypeId × Value → H} {P : Program} {w : World} {base : Nat} {spare : Nat → Bool} {held : Bool}
end

theorem lw_wf {z : Int} (h : (Lit.int .i64 z).wf = true) : -9223372036854775808 ≤ z ∧ z ≤ 9223372036854775807 := by
  unfold Lit.wf at h
  simp only [Bool.and_eq_true, decide_eq_true_eq] at h
  exact h

/-- A law's argument of type []api.Span, opened. -/
theorem open_spans {H : Type} {enc : TypeId × Value → H} {w : World} {base : Nat} {spare : Nat → Bool} {held : Bool} {fuel : Nat} {a : Option Addr} {len cap : Nat} {x : DataW H × List MemPlace}
    (h : DataW.trod enc Tryd.prog w base spare held fuel 59 [.slice a len cap] = some x) : ∃ l : List Sp.S, len = l.length ∧ Spans w a cap l := by
  rcases open_slice_fields' Tryd.underlying59 Tryd.underlying58 (by kernel_rfl) (by kernel_rfl) h with hcs | ⟨x, l, c, m, hcs, hl, hm, hmm, hc⟩
  · simp at hcs
    obtain ⟨rfl, rfl, rfl⟩ := hcs
    exact ⟨[], rfl, by simp, by simp, by simp, .inl rfl⟩
  · simp at hcs
    obtain ⟨rfl, rfl, rfl⟩ := hcs
    rcases Nat.eq_zero_or_pos len with rfl | hpos
    · exact ⟨[], rfl, by simp, by simp, by simp, .inl rfl⟩
    have hcell : ∀ i, i < len → ∃ s : Sp.S, w.cell? (x.add (i * 2)) = some (.int .i64 s.1) ∧ w.cell? (x.add (i * 2 + 1)) = some (.int .i64 s.2) ∧ -9223372036854775808 ≤ s.1 ∧ s.1 ≤ 9223372036854775807 ∧ -9223372036854775808 ≤ s.2 ∧ s.2 ≤ 9223372036854775807 := by
      intro i hi
      obtain ⟨v, y, n, c1, t1⟩ := hc i (by omega) 0 _ rfl
      obtain ⟨v', y', n', c2, t2⟩ := hc i (by omega) 1 _ rfl
      obtain ⟨z1, e1, -, w1⟩ := DataW.trod_int Tryd.underlying3 t1
      obtain ⟨z2, e2, -, w2⟩ := DataW.trod_int Tryd.underlying3 t2
      simp at e1 e2
      subst e1 e2
      exact ⟨(z1, z2), c1, c2, (lw_wf w1).1, (lw_wf w1).2, (lw_wf w2).1, (lw_wf w2).2⟩
    have hspot : x.spot = none := by
      obtain ⟨s, h1, -⟩ := hcell 0 hpos
      simpa [Addr.add] using World.cell?_spot h1
    obtain ⟨b, off, spot⟩ := x
    simp only at hspot
    subst hspot
    have hcell2 : ∀ i, i < len → ∃ s : Sp.S, w.cell? ⟨b, off + i * 2, none⟩ = some (.int .i64 s.1) ∧ w.cell? ⟨b, off + i * 2 + 1, none⟩ = some (.int .i64 s.2) ∧ -9223372036854775808 ≤ s.1 ∧ s.1 ≤ 9223372036854775807 ∧ -9223372036854775808 ≤ s.2 ∧ s.2 ≤ 9223372036854775807 := by
      intro i hi
      obtain ⟨s, hs⟩ := hcell i hi
      have a1 : (Addr.add ⟨b, off, none⟩ (i * 2)) = ⟨b, off + i * 2, none⟩ := by
        unfold Addr.add; split <;> simp_all
      have a2 : (Addr.add ⟨b, off, none⟩ (i * 2 + 1)) = ⟨b, off + i * 2 + 1, none⟩ := by
        unfold Addr.add; split <;> first | omega | rfl
      rw [a1, a2] at hs
      exact ⟨s, hs⟩
    obtain ⟨ls, hlen, hf⟩ := list_of (0, 0) _ len hcell2
    have hb : b < w.heap.size := by
      have h1 := (hf 0 hpos).1
      rcases Nat.lt_or_ge b w.heap.size with h' | h'
      · exact h'
      · simp [World.cell?, Array.getElem?_eq_none h'] at h1
    have hM : maxLen = 9223372036854775807 := by decide
    refine ⟨ls, hlen.symm, by omega, by omega, fun s hs => ?_, .inr ⟨b, off, rfl, hb, fun k hk => ?_⟩⟩
    · obtain ⟨i, hi, rfl⟩ := List.mem_iff_getElem.1 hs
      have := (hf i (by omega)).2.2
      simpa [List.getD, hi] using this
    · exact ⟨(hf k (by omega)).1, (hf k (by omega)).2.1⟩

/-- A law's argument of type []api.Claim, opened. -/
theorem open_claims {H : Type} {enc : TypeId × Value → H} {w : World} {base : Nat} {spare : Nat → Bool} {held : Bool} {fuel : Nat} {a : Option Addr} {len cap : Nat} {x : DataW H × List MemPlace}
    (h : DataW.trod enc Tryd.prog w base spare held fuel 22 [.slice a len cap] = some x) : ∃ l : List Ow.C, len = l.length ∧ Cls w a cap l := by
  rcases open_slice_fields' Tryd.underlying22 Tryd.underlying64 (by kernel_rfl) (by kernel_rfl) h with hcs | ⟨x, l, c, m, hcs, hl, hm, hmm, hc⟩
  · simp at hcs
    obtain ⟨rfl, rfl, rfl⟩ := hcs
    exact ⟨[], rfl, by simp, by simp, by simp, .inl rfl⟩
  · simp at hcs
    obtain ⟨rfl, rfl, rfl⟩ := hcs
    rcases Nat.eq_zero_or_pos len with rfl | hpos
    · exact ⟨[], rfl, by simp, (by have hM : maxLen = 9223372036854775807 := (by decide); omega), by simp, .inl rfl⟩
    have hcell : ∀ i, i < len → ∃ s : Ow.C, w.cell? (x.add (i * 4)) = some (.int .i64 s.f) ∧ w.cell? (x.add (i * 4 + 1)) = some (.int .i64 s.t) ∧ w.cell? (x.add (i * 4 + 2)) = some (.int .i64 s.n) ∧ w.cell? (x.add (i * 4 + 3)) = some (.int .i64 s.e) ∧ Ow.FitC s := by
      intro i hi
      obtain ⟨v, y, n, c1, t1⟩ := hc i (by omega) 0 _ rfl
      obtain ⟨v2, y2, n2, c2, t2⟩ := hc i (by omega) 1 _ rfl
      obtain ⟨v3, y3, n3, c3, t3⟩ := hc i (by omega) 2 _ rfl
      obtain ⟨v4, y4, n4, c4, t4⟩ := hc i (by omega) 3 _ rfl
      obtain ⟨z1, e1, -, w1⟩ := DataW.trod_int Tryd.underlying3 t1
      obtain ⟨z2, e2, -, w2⟩ := DataW.trod_int Tryd.underlying3 t2
      obtain ⟨z3, e3, -, w3⟩ := DataW.trod_int Tryd.underlying3 t3
      obtain ⟨z4, e4, -, w4⟩ := DataW.trod_int Tryd.underlying3 t4
      simp at e1 e2 e3 e4
      subst e1 e2 e3 e4
      exact ⟨⟨z1, z2, z3, z4⟩, c1, c2, c3, c4, (lw_wf w1).1, (lw_wf w1).2, (lw_wf w2).1, (lw_wf w2).2, (lw_wf w3).1, (lw_wf w3).2, (lw_wf w4).1, (lw_wf w4).2⟩
    have hspot : x.spot = none := by
      obtain ⟨s, h1, -⟩ := hcell 0 hpos
      simpa [Addr.add] using World.cell?_spot h1
    obtain ⟨b, off, spot⟩ := x
    simp only at hspot
    subst hspot
    have hcell2 : ∀ i, i < len → ∃ s : Ow.C, w.cell? ⟨b, off + i * 4, none⟩ = some (.int .i64 s.f) ∧ w.cell? ⟨b, off + i * 4 + 1, none⟩ = some (.int .i64 s.t) ∧ w.cell? ⟨b, off + i * 4 + 2, none⟩ = some (.int .i64 s.n) ∧ w.cell? ⟨b, off + i * 4 + 3, none⟩ = some (.int .i64 s.e) ∧ Ow.FitC s := by
      intro i hi
      obtain ⟨s, hs⟩ := hcell i hi
      have aj : ∀ j, (Addr.add ⟨b, off, none⟩ (i * 4 + j)) = ⟨b, off + i * 4 + j, none⟩ := fun j => by
        unfold Addr.add
        split
        · simp_all
        · show (⟨b, off + (i * 4 + j), none⟩ : Addr) = _
          rw [Nat.add_assoc]
      have a0 : (Addr.add ⟨b, off, none⟩ (i * 4)) = ⟨b, off + i * 4, none⟩ := aj 0
      rw [a0, aj, aj, aj] at hs
      exact ⟨s, hs⟩
    obtain ⟨ls, hlen, hf⟩ := list_of Ow.z _ len hcell2
    have hb : b < w.heap.size := by
      have h1 := (hf 0 hpos).1
      rcases Nat.lt_or_ge b w.heap.size with h' | h'
      · exact h'
      · simp [World.cell?, Array.getElem?_eq_none h'] at h1
    have hM : maxLen = 9223372036854775807 := by decide
    refine ⟨ls, hlen.symm, by omega, by omega, fun s hs => ?_, .inr ⟨b, off, rfl, hb, fun k hk => ?_⟩⟩
    · obtain ⟨i, hi, rfl⟩ := List.mem_iff_getElem.1 hs
      have := (hf i (by omega)).2.2.2.2
      simpa [List.getD, hi] using this
    · have := hf k (by omega)
      exact ⟨this.1, this.2.1, this.2.2.1, this.2.2.2.1⟩

end Go.Proofs.YtahmddopbmjepaaDoor
