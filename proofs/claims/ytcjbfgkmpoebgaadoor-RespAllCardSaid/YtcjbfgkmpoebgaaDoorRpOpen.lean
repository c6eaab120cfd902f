/- An api.Reply that came in, opened: a tree, however great. -/
import Derived.Test.YtcjbfgkmpoebgaaDoorRpMany
import Derived.ProofKit
import Derived.SliceStrings
import Derived.Deep.Slices
import Derived.Deep.Fields
import Derived.ChangeSame
import Derived.IntWalk
namespace Go.Proofs.YtcjbfgkmpoebgaaDoor
open Go.ChangeShapes Go.WideShapes Go.ChangeAt Go.RowKit
open Go.Deep (hone_of)
set_option linter.unusedVariables false

theorem list_of {α : Type} (d : α) (P : Nat → α → Prop) : ∀ n, (∀ i, i < n → ∃ s, P i s) → ∃ l : List α, l.length = n ∧ ∀ i, i < n → P i (l.getD i d)
  | 0, _ => ⟨[], rfl, by simp⟩
  | n + 1, h => by
    obtain ⟨l, hl, hp⟩ := list_of d P n (fun i hi => h i (by omega))
    obtain ⟨s, hs⟩ := h n (by omega)
    refine ⟨l ++ [s], by simp [hl], fun i hi => ?_⟩
    rcases Nat.lt_or_ge i n with h1 | h1
    · have := hp i h1
      simpa [List.getD, List.getElem?_append, hl, h1] using this
    · obtain rfl : i = n := by omega
      simpa [List.getD, List.getElem?_append, hl] using hs
theorem wf64 {z : Int} (h : (Lit.int .i64 z).wf = true) : -9223372036854775808 ≤ z ∧ z ≤ 9223372036854775807 := by
  unfold Lit.wf at h
  simp only [Bool.and_eq_true, decide_eq_true_eq] at h
  exact h
theorem mk_of' (s : ByteArray) : (⟨s.data.toList.toArray⟩ : ByteArray) = s := by
  apply ByteArray.ext
  simp
theorem RepWL.of {w : World} {b : Nat} : ∀ (l : List Rp.R) (off : Nat), (∀ j (h : j < l.length), ∃ v0 v1 v2 v3, w.cell? ⟨b, off + j * 4, none⟩ = some v0 ∧ w.cell? ⟨b, off + j * 4 + 1, none⟩ = some v1 ∧ w.cell? ⟨b, off + j * 4 + 2, none⟩ = some v2 ∧ w.cell? ⟨b, off + j * 4 + 3, none⟩ = some v3 ∧ RepW w l[j] (.agg #[v0, v1, v2, v3])) → RepWL w l b off
  | [], _, _ => by unfold RepWL; trivial
  | r :: l, off, h => by
    unfold RepWL
    refine ⟨by have := h 0 (by simp); simp only [Nat.zero_mul, Nat.add_zero, List.getElem_cons_zero] at this; exact this, RepWL.of l (off + 4) fun j hj => ?_⟩
    have := h (j + 1) (by simpa using hj)
    rw [show off + (j + 1) * 4 = off + 4 + j * 4 by omega] at this
    simpa using this

set_option maxRecDepth 100000 in
/-- its cells. -/
theorem open_cells {H : Type} {enc : TypeId × Value → H} {w : World} {base : Nat} {spare : Nat → Bool} {held : Bool} : ∀ (fuel : Nat) (cs : List Value) (x : DataW H × List MemPlace), DataW.trod enc Tryd.prog w base spare held fuel 24 cs = some x →
    ∃ (r : Rp.R) (v0 v1 v2 v3 : Value), cs = [v0, v1, v2, v3] ∧ RepW w r (.agg #[v0, v1, v2, v3]) := by
  intro fuel
  induction fuel using Nat.strongRecOn with
  | _ fuel ih =>
    intro cs x h
    obtain ⟨ys, n, hn, hx, hlen, hyl, hf⟩ := DataW.trod_struct Tryd.underlying24 h
    have hC : Tryd.prog.cellsOf 24 = 4 := by kernel_rfl
    rw [hC] at hlen
    have k1 : Tryd.prog.cellsOf 3 = 1 := by kernel_rfl
    have k2 : Tryd.prog.cellsOf 9 = 1 := by kernel_rfl
    have k3 : Tryd.prog.cellsOf 22 = 1 := by kernel_rfl
    obtain ⟨v0, v1, v2, v3, rfl⟩ : ∃ v0 v1 v2 v3, cs = [v0, v1, v2, v3] := by
      match cs, hlen with
      | [v0, v1, v2, v3], _ => exact ⟨v0, v1, v2, v3, rfl⟩
    obtain ⟨y0, y1, y2, y3, rfl⟩ : ∃ y0 y1 y2 y3, ys = [y0, y1, y2, y3] := by
      match ys, hyl with
      | [y0, y1, y2, y3], _ => exact ⟨y0, y1, y2, y3, rfl⟩
    have t0 : DataW.trod enc Tryd.prog w base spare held n 3 [v0] = some y0 := by simpa [k1] using hf 0 _ rfl
    have t1 : DataW.trod enc Tryd.prog w base spare held n 9 [v1] = some y1 := by simpa [k2] using hf 1 _ rfl
    have t2 : DataW.trod enc Tryd.prog w base spare held n 3 [v2] = some y2 := by simpa [k1] using hf 2 _ rfl
    have t3 : DataW.trod enc Tryd.prog w base spare held n 22 [v3] = some y3 := by simpa [k3] using hf 3 _ rfl
    obtain ⟨k, e0, -, w0⟩ := DataW.trod_int Tryd.underlying3 t0
    obtain ⟨s, e1, -, w1⟩ := DataW.trod_string Tryd.underlying9 t1
    obtain ⟨m, e2, -, w2⟩ := DataW.trod_int Tryd.underlying3 t2
    simp only [List.cons.injEq, and_true] at e0 e1 e2
    subst e0 e1 e2
    have hk := wf64 w0
    have hm := wf64 w2
    have hM : maxLen = 9223372036854775807 := by decide
    have hs : s.data.toList.length = s.size := Array.length_toList
    have hsl : s.data.toList.length ≤ 9223372036854775807 := by omega
    rcases DataW.trod_slice Tryd.underlying22 t3 with ⟨e3, -⟩ | ⟨a, len, cap, elems, rest, n', hn', e3, hx3, hb, hl, hcm, hel0, hel1, -, -⟩
    · simp only [List.cons.injEq, and_true] at e3
      subst e3
      refine ⟨.mk k s.data.toList m [], _, _, _, _, rfl, ?_⟩
      unfold RepW
      exact ⟨none, 0, by unfold rv; rw [mk_of']; rfl, ⟨hk.1, hk.2, hm.1, hm.2, hsl, by simp, by decide⟩, .inl rfl⟩
    · simp only [List.cons.injEq, and_true] at e3
      subst e3
      rcases Nat.eq_zero_or_pos len with rfl | hpos
      · refine ⟨.mk k s.data.toList m [], _, _, _, _, rfl, ?_⟩
        unfold RepW
        exact ⟨some a, cap, by unfold rv; rw [mk_of']; rfl, ⟨hk.1, hk.2, hm.1, hm.2, hsl, by simp, by omega⟩, .inl rfl⟩
      have hel : ∀ i, i < len → ∃ r : Rp.R, ∃ v0 v1 v2 v3, w.cell? ((a.add (i * 4)).add 0) = some v0 ∧ w.cell? ((a.add (i * 4)).add 1) = some v1 ∧ w.cell? ((a.add (i * 4)).add 2) = some v2 ∧ w.cell? ((a.add (i * 4)).add 3) = some v3 ∧ RepW w r (.agg #[v0, v1, v2, v3]) := by
        intro i hil
        have he := hel1 i hil
        rw [List.getElem?_eq_getElem (by omega)] at he
        obtain ⟨cs', hc, ht'⟩ := Option.bind_eq_some_iff.1 he
        rw [hC] at hc
        obtain ⟨_, hcl, hat⟩ := World.cells?_some hc
        obtain ⟨r, u0, u1, u2, u3, rfl, hr⟩ := ih n' (by omega) cs' _ ht'
        exact ⟨r, u0, u1, u2, u3, hat 0 (by decide), hat 1 (by decide), hat 2 (by decide), hat 3 (by decide), hr⟩
      obtain ⟨b, off, spot⟩ := a
      have hspot : spot = none := by
        obtain ⟨r, u0, u1, u2, u3, c0, -⟩ := hel 0 hpos
        simpa [Addr.add] using World.cell?_spot c0
      subst hspot
      have hadd : ∀ i j, ((⟨b, off, none⟩ : Addr).add (i * 4)).add j = ⟨b, off + i * 4 + j, none⟩ := fun i j => by
        have e : ∀ o k, (⟨b, o, none⟩ : Addr).add k = ⟨b, o + k, none⟩ := fun o k => by unfold Addr.add; split <;> simp_all
        rw [e, e]
      obtain ⟨l, hll, hlp⟩ := list_of (Rp.R.mk 0 [] 0 []) (fun i r => ∃ v0 v1 v2 v3, w.cell? ⟨b, off + i * 4, none⟩ = some v0 ∧ w.cell? ⟨b, off + i * 4 + 1, none⟩ = some v1 ∧ w.cell? ⟨b, off + i * 4 + 2, none⟩ = some v2 ∧ w.cell? ⟨b, off + i * 4 + 3, none⟩ = some v3 ∧ RepW w r (.agg #[v0, v1, v2, v3])) len (fun i hil => by
        obtain ⟨r, u0, u1, u2, u3, c0, c1, c2, c3, hr⟩ := hel i hil
        rw [hadd] at c0 c1 c2 c3
        exact ⟨r, u0, u1, u2, u3, c0, c1, c2, c3, hr⟩)
      have hbl : b < w.heap.size := by
        obtain ⟨u0, _, _, _, c0, -⟩ := hlp 0 hpos
        exact World.block_lt_of_cell? w _ c0
      refine ⟨.mk k s.data.toList m l, _, _, _, _, rfl, ?_⟩
      unfold RepW
      refine ⟨some ⟨b, off, none⟩, cap, by unfold rv; rw [mk_of', hll], ⟨hk.1, hk.2, hm.1, hm.2, hsl, by omega, by omega⟩, .inr ⟨b, off, rfl, hbl, RepWL.of l off fun j hj => ?_⟩⟩
      have := hlp j (by omega)
      rwa [show l.getD j (Rp.R.mk 0 [] 0 []) = l[j] by simp [List.getD, hj]] at this

set_option maxRecDepth 100000 in
/-- a reply, opened. -/
theorem open_reply {H : Type} {enc : TypeId × Value → H} {w : World} {base : Nat} {spare : Nat → Bool} {held : Bool} {r : Reach} {b0 : Nat} {v : Value} {d : DataW H} {p : List MemPlace}
    (hv : Value.okWide Tryd.prog w r b0 24 v) (h : DataW.Trod enc Tryd.prog w base spare held 24 v d p) :
    ∃ (x : Rp.R) (a : Option Addr) (c : Nat), v = rv x.k x.s x.n a x.l.length c ∧ RepW w x (rv x.k x.s x.n a x.l.length c) := by
  obtain ⟨cs, rfl, hsz⟩ := okWide_struct Tryd.underlying24 hv
  obtain ⟨fuel, hf⟩ := h
  obtain ⟨x, v0, v1, v2, v3, e, hr⟩ := open_cells fuel _ _ hf
  obtain ⟨a, c, hp⟩ := hr.parts
  obtain ⟨l⟩ := cs
  have hl : l = [v0, v1, v2, v3] := by simpa [Value.cells] using e
  subst hl
  rw [hp] at hr
  exact ⟨x, a, c, hp, hr⟩
end Go.Proofs.YtcjbfgkmpoebgaaDoor
