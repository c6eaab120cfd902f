/- The contracts of the reference's Norm, Count, MaySpans. -/
import Derived.Test.YtchladbjhodkoaaSpMix0
namespace Go.Proofs.Ytchladbjhodkoaa
open Go.RowKit

theorem spans_nil (w : World) : Spans w none 0 [] := ⟨Nat.le_refl _, by simp, by simp, .inl rfl⟩

theorem refNorm_any (a1 : Option Addr) (cap1 : Nat) (l : List Sp.S) (w : World) (hn : l.length ≤ 100000) (h1 : Spans w a1 cap1 l) :
    Calls Try.prog 31 #[.slice a1 l.length cap1] w (Mixed 0 l [] w) := by
  have H := Lib.hid (refMix_0 a1 none cap1 0 l [] w (by simpa using hn) h1 (spans_nil w))
  clear h1
  go_enter Try.func31, Try.ntmps31
  go_wp2_with fail
  refine H.out.mono ?_
  rintro e w1 ⟨a, cap, rfl, hS, hb⟩
  have HS := Lib.hid hS
  have HB := Lib.hid hb
  clear hS hb
  go_wp2
  go_ret
  exact ⟨a, cap, rfl, HS.out, HB.out⟩

/-- how many slots spans say, put together. -/
def sumS (l : List Sp.S) : Int := (l.map fun s => s.2 - s.1 + 1).sum
def countS (l : List Sp.S) : Int := sumS (Sp.mixS 0 l [])

theorem sumS_bound : ∀ {l : List Sp.S}, (∀ s ∈ l, 0 ≤ s.1 ∧ s.1 ≤ s.2 ∧ s.2 < 16384) → 0 ≤ sumS l ∧ sumS l ≤ 16384 * l.length
  | [], _ => by simp [sumS]
  | s :: l, h => by
    have h1 := h s (by simp)
    have h2 := sumS_bound (l := l) (fun t ht => h t (by simp [ht]))
    simp only [sumS, List.map_cons, List.sum_cons, List.length_cons] at h2 ⊢
    omega

theorem sumS_snoc {l : List Sp.S} {k : Nat} (hk : k < l.length) : sumS (l.take (k + 1)) = sumS (l.take k) + (l.getD k (0, 0)).2 - (l.getD k (0, 0)).1 + 1 := by
  rw [List.take_succ_eq_append_getElem hk]
  simp only [sumS, List.map_append, List.sum_append, List.map_cons, List.map_nil, List.sum_cons, List.sum_nil]
  have : l.getD k (0, 0) = l[k] := by simp [List.getD, hk]
  rw [this]; omega

theorem mixS_len (how : Int) (a b : List Sp.S) (h : a.length + b.length ≤ 100000) : (Sp.mixS how a b).length ≤ 300000 := by
  have h1 := Sp.mixTo_len how a b (Sp.marksS (a ++ b)) ((Sp.marksS (a ++ b)).length - 1)
  have h2 := Sp.marksS_len (a ++ b)
  unfold Sp.mixS
  rw [List.length_append] at h2
  omega

set_option maxHeartbeats 1000000 in
theorem refCount_any (a1 : Option Addr) (cap1 : Nat) (l : List Sp.S) (w : World) (hn : l.length ≤ 100000) (h1 : Spans w a1 cap1 l) :
    Calls Try.prog 30 #[.slice a1 l.length cap1] w fun e w' => e = .returned (.int .i64 (countS l)) ∧ Below w.heap.size w w' := by
  have H := Lib.hid (refNorm_any a1 cap1 l w hn h1)
  have hml := mixS_len 0 l [] (by simpa using hn)
  have hv := (Sp.mixS_spec 0 l []).1.1
  have HV := Lib.hid hv
  clear h1 hv
  go_enter Try.func30, Try.ntmps30
  go_wp2_with fail
  refine H.out.mono ?_
  rintro e w1 ⟨a, cap, rfl, hS, hb⟩
  have HS := Lib.hid hS
  have HB := Lib.hid hb
  have HK : Hid (countS l = sumS (Sp.mixS 0 l [])) := Lib.hid rfl
  clear hS hb H
  generalize Sp.mixS 0 l [] = m at *
  go_wp2_with fail
  go_loopw [3, 5] (fun n i wr => ∃ k : Nat, k ≤ m.length ∧ i = .int .i64 k ∧ n = .int .i64 (sumS (m.take k)) ∧ Hid (Below w1.heap.size w1 wr)) (fun _ i _ => m.length - (intOf i).toNat)
  case atStart => exact ⟨0, Nat.zero_le _, rfl, rfl, Lib.hid (Below.refl _ _)⟩
  case round =>
    obtain ⟨k, hk, rfl, rfl, HW⟩ := hrel
    have hbd := sumS_bound (l := m.take k) (fun s hs => HV.out s (List.mem_of_mem_take hs))
    have hl2 : (m.take k).length ≤ 300000 := by rw [List.length_take]; omega
    by_cases hlt : k < m.length
    · have hsn := sumS_snoc hlt
      obtain ⟨b, off, hab, hbl, c1, c2⟩ := (HS.out.later HW.out).cells hlt
      have hvs : 0 ≤ (m.getD k (0, 0)).1 ∧ (m.getD k (0, 0)).1 ≤ (m.getD k (0, 0)).2 ∧ (m.getD k (0, 0)).2 < 16384 := by
        have e : m.getD k (0, 0) = m[k] := by simp [List.getD, hlt]
        rw [e]; exact HV.out _ (List.getElem_mem hlt)
      generalize m.getD k (0, 0) = s at c1 c2 hvs hsn
      obtain ⟨x, y⟩ := s
      simp only at c1 c2 hvs hsn
      obtain ⟨v1, v2, v3⟩ := hvs
      have HSN := Lib.hid hsn
      subst hab
      clear hsn
      generalize sumS (m.take k) = z at *
      obtain ⟨b1, b2⟩ := hbd
      have e1 : IntKind.i64.wrap (z + y) = z + y := IntWalk.i64_in _ (by omega)
      have e2 : IntKind.i64.wrap (z + y - x) = z + y - x := IntWalk.i64_in _ (by omega)
      have e3 : IntKind.i64.wrap (z + y - x + 1) = z + y - x + 1 := IntWalk.i64_in _ (by omega)
      have kI : (k : Int) < (m.length : Int) := by omega
      go_upto_region 6 with (fail)
      go_quiet (fail)
      clear e1 e2 e3
      go_wp2
      go_roundw
      case rel => exact ⟨k + 1, by omega, by go_num, by rw [HSN.out], Lib.hid (below_drewN HW.out _)⟩
      case measure => simp [intOf]; omega
    · have hall : m.take k = m := List.take_of_length_le (by omega)
      rw [hall]
      clear hbd hl2 hall
      go_wp2
      go_ret
      exact ⟨by rw [HK.out]; rfl, HB.out.trans (HW.out.mono HB.out.size)⟩

/-- each span but the first begins behind the one before it. -/
def mayAt (l : List Sp.S) (k : Nat) : Prop :=
  0 ≤ (l.getD k (0, 0)).1 ∧ (l.getD k (0, 0)).1 ≤ (l.getD k (0, 0)).2 ∧ (l.getD k (0, 0)).2 < 16384 ∧ (0 < k → (l.getD (k - 1) (0, 0)).2 + 1 < (l.getD k (0, 0)).1)

theorem valid_take {l : List Sp.S} {k : Nat} (hk : k < l.length) : Sp.Valid (l.take (k + 1)) ↔ Sp.Valid (l.take k) ∧ mayAt l k := by
  have e : l.getD k (0, 0) = l[k] := by simp [List.getD, hk]
  rw [List.take_succ_eq_append_getElem hk, Sp.valid_snoc]
  unfold mayAt
  rw [e]
  constructor
  · rintro ⟨h1, h2, h3, h4, h5⟩
    refine ⟨h1, h2, h3, h4, fun h0 => ?_⟩
    have hk1 : k - 1 < l.length := by omega
    have e1 : l.getD (k - 1) (0, 0) = l[k - 1] := by simp [List.getD, hk1]
    rw [e1]
    refine h5 _ ?_
    rw [List.mem_take_iff_getElem]
    exact ⟨k - 1, by omega, rfl⟩
  · rintro ⟨h1, h2, h3, h4, h5⟩
    refine ⟨h1, h2, h3, h4, fun s hs => ?_⟩
    obtain ⟨j, hj, rfl⟩ := List.mem_take_iff_getElem.1 hs
    have hk0 : 0 < k := by omega
    have hk1 : k - 1 < l.length := by omega
    have e1 : l.getD (k - 1) (0, 0) = l[k - 1] := by simp [List.getD, hk1]
    have h6 := h5 hk0
    rw [e1] at h6
    by_cases hjk : j = k - 1
    · subst hjk; exact h6
    · have hp := List.pairwise_iff_getElem.1 h1.2 j (k - 1) (by rw [List.length_take]; omega) (by rw [List.length_take]; omega) (by omega)
      rw [List.getElem_take, List.getElem_take] at hp
      have hm := h1.1 (l[k - 1]) (List.mem_take_iff_getElem.2 ⟨k - 1, by omega, rfl⟩)
      omega

theorem valid_of_take {l : List Sp.S} (h : Sp.Valid l) (k : Nat) : Sp.Valid (l.take k) :=
  ⟨fun s hs => h.1 s (List.mem_of_mem_take hs), h.2.sublist (List.take_sublist k l)⟩

end Go.Proofs.Ytchladbjhodkoaa
