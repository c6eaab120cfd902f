/- Plain: what all nodes own together is what is claimed; no two own one slot. -/
import Derived.Test.YtchladbjhodkoaaOwCnt
import Derived.Test.YtchladbjhodkoaaOwMastPlain
namespace Go.Proofs.Ytchladbjhodkoaa

abbrev ownS (l : List Ow.C) (i : Int) : List Sp.S := Sp.mixS 0 (ownedL l i) []
def spL (l : List Ow.C) : List Sp.S := l.map fun c => (c.f, c.t)
def partsUp (l : List Ow.C) : Nat → List Sp.S
  | 0 => []
  | n + 1 => partsUp l n ++ ownS l (n : Int)
def cntUp (l : List Ow.C) : Nat → Int
  | 0 => 0
  | n + 1 => cntUp l n + countS (ownS l (n : Int))
def pn (l : List Ow.C) (n : Nat) (k : Int) : Bool := match Ow.own l k with
  | none => false
  | some o => decide (o.1 < (n : Int))

theorem ownS_valid (l : List Ow.C) (i : Int) : Sp.Valid (ownS l i) := (Sp.mixS_spec 0 (ownedL l i) []).1

theorem has_ownS {l : List Ow.C} (h : Ow.VL l) {i k : Int} : Sp.hasB (ownS l i) k = true ↔ ∃ e, Ow.own l k = some (i, e) := by
  have e0 : Sp.hasB ([] : List Sp.S) k = false := rfl
  rw [(Sp.mixS_spec 0 (ownedL l i) []).2, e0, Bool.and_eq_true, decide_eq_true_eq]
  constructor
  · rintro ⟨hk, h2⟩
    have h3 : Sp.hasB (ownedL l i) k = true := by
      cases hh : Sp.hasB (ownedL l i) k with
      | true => rfl
      | false => rw [hh] at h2; simp [Sp.cnd] at h2
    obtain ⟨_, _, s, hs, g1, g2⟩ := Sp.hasB_iff.1 h3
    obtain ⟨c, hc, rfl⟩ := List.mem_map.1 hs
    obtain ⟨hc, hn⟩ := List.mem_filter.1 hc
    rw [decide_eq_true_eq] at hn
    have := Ow.own_of h hc (Ow.inC_iff.2 ⟨g1, g2⟩)
    exact ⟨c.e, by rw [this, hn]⟩
  · rintro ⟨e, he⟩
    have hr := Ow.own_range h he
    obtain ⟨c, hc, hi, hx⟩ := Ow.own_some he
    rw [Ow.inC_iff] at hi
    simp only [Prod.mk.injEq] at hx
    have h3 : Sp.hasB (ownedL l i) k = true := Sp.hasB_iff.2 ⟨hr.1, hr.2.1, (c.f, c.t), List.mem_map.2 ⟨c, List.mem_filter.2 ⟨hc, by simpa using hx.1.symm⟩, rfl⟩, hi⟩
    exact ⟨⟨hr.1, hr.2.1⟩, by rw [h3]; rfl⟩

theorem has_spL {l : List Ow.C} (h : Ow.VL l) {k : Int} : Sp.hasB (spL l) k = (Ow.own l k).isSome := by
  rw [Bool.eq_iff_iff]
  constructor
  · intro h3
    obtain ⟨_, _, s, hs, g1, g2⟩ := Sp.hasB_iff.1 h3
    obtain ⟨c, hc, rfl⟩ := List.mem_map.1 hs
    rw [Ow.own_of h hc (Ow.inC_iff.2 ⟨g1, g2⟩)]
    rfl
  · intro hs
    obtain ⟨o, ho⟩ := Option.isSome_iff_exists.1 hs
    have hr := Ow.own_range h ho
    obtain ⟨c, hc, hi, hx⟩ := Ow.own_some ho
    rw [Ow.inC_iff] at hi
    exact Sp.hasB_iff.2 ⟨hr.1, hr.2.1, (c.f, c.t), List.mem_map.2 ⟨c, hc, rfl⟩, hi⟩

theorem pn_succ {l : List Ow.C} (h : Ow.VL l) (n : Nat) (k : Int) : pn l (n + 1) k = (pn l n k || Sp.hasB (ownS l (n : Int)) k) ∧ ¬ (pn l n k = true ∧ Sp.hasB (ownS l (n : Int)) k = true) := by
  have hh := has_ownS h (i := (n : Int)) (k := k)
  unfold pn
  cases ho : Ow.own l k with
  | none =>
    have : Sp.hasB (ownS l (n : Int)) k = false := by
      cases hx : Sp.hasB (ownS l (n : Int)) k with
      | false => rfl
      | true => obtain ⟨e, he⟩ := hh.1 hx; rw [ho] at he; cases he
    rw [this]
    simp
  | some o =>
    obtain ⟨m, e⟩ := o
    by_cases hm : m = (n : Int)
    · have : Sp.hasB (ownS l (n : Int)) k = true := hh.2 ⟨e, by rw [ho, hm]⟩
      rw [this]
      simp [hm]
      omega
    · have : Sp.hasB (ownS l (n : Int)) k = false := by
        cases hx : Sp.hasB (ownS l (n : Int)) k with
        | false => rfl
        | true => obtain ⟨e, he⟩ := hh.1 hx; rw [ho] at he; cases he; exact (hm rfl).elim
      rw [this]
      simp
      omega

theorem pn_has {l : List Ow.C} (h : Ow.VL l) (k : Int) : ∀ n : Nat, Sp.hasB (partsUp l n) k = pn l n k
  | 0 => by
    unfold partsUp pn
    cases ho : Ow.own l k with
    | none => rfl
    | some o =>
      have := (Ow.own_range h ho).2.2.1
      show false = decide (o.1 < ((0 : Nat) : Int))
      rw [decide_eq_false (by omega)]
  | n + 1 => by rw [partsUp, Sp.hasB_append, pn_has h k n, (pn_succ h n k).1]

theorem pn_all {l : List Ow.C} (h : Ow.VL l) (k : Int) : pn l 8 k = (Ow.own l k).isSome := by
  unfold pn
  cases ho : Ow.own l k with
  | none => rfl
  | some o =>
    have := (Ow.own_range h ho).2.2.2.1
    simpa using this

theorem count_ownS (l : List Ow.C) (i : Int) : countS (ownS l i) = sumS (ownS l i) := by
  unfold countS
  rw [Sp.mix_self (Sp.mixS_spec 0 (ownedL l i) []).1]

theorem cnt_parts {l : List Ow.C} (h : Ow.VL l) : ∀ n : Nat, cntUp l n = Sp.cnt (pn l n) 16384
  | 0 => by
    have : Sp.cnt (pn l 0) 16384 = Sp.cnt (fun _ => false) 16384 := Sp.cnt_congr _ fun k _ => by rw [← pn_has h]; rfl
    rw [this, Sp.cnt_none]
    rfl
  | n + 1 => by
    rw [cntUp, cnt_parts h n, count_ownS, Sp.sumS_cnt (ownS_valid l (n : Int))]
    have := Sp.cnt_lin (h := pn l (n + 1)) (f := pn l n) (g := Sp.hasB (ownS l (n : Int))) (x := fun _ => false) 16384 (fun k _ => by
      have hp := pn_succ h n (k : Int)
      rw [hp.1]
      cases h1 : pn l n k <;> cases h2 : Sp.hasB (ownS l (n : Int)) k
      · rfl
      · rfl
      · rfl
      · exact (hp.2 ⟨h1, h2⟩).elim)
    rw [this, Sp.cnt_none]
    omega

theorem cntUp_bound {l : List Ow.C} (h : Ow.VL l) (n : Nat) : 0 ≤ cntUp l n ∧ cntUp l n ≤ 16384 := by
  rw [cnt_parts h n]; exact Sp.cnt_bound _ 16384

theorem cntUp_all {l : List Ow.C} (h : Ow.VL l) : cntUp l 8 = countS (spL l) := by
  rw [cnt_parts h 8]
  unfold countS
  rw [Sp.cnt_mix]
  refine Sp.cnt_congr _ fun k _ => ?_
  have e0 : Sp.hasB ([] : List Sp.S) (k : Int) = false := rfl
  rw [pn_all h, has_spL h, e0]
  cases (Ow.own l (k : Int)).isSome <;> rfl

theorem parts_all {l : List Ow.C} (h : Ow.VL l) : Sp.mixS 0 (partsUp l 8) [] = Sp.mixS 0 (spL l) [] := by
  refine Sp.Valid.unique (Sp.mixS_spec 0 (partsUp l 8) []).1 (Sp.mixS_spec 0 (spL l) []).1 fun k => ?_
  rw [(Sp.mixS_spec 0 (partsUp l 8) []).2, (Sp.mixS_spec 0 (spL l) []).2, pn_has h, pn_all h, has_spL h]

theorem valid_le_sum : ∀ {l : List Sp.S}, (∀ s ∈ l, 0 ≤ s.1 ∧ s.1 ≤ s.2 ∧ s.2 < 16384) → (l.length : Int) ≤ sumS l
  | [], _ => by simp [sumS]
  | s :: l, h => by
    have h1 := h s (by simp)
    have h2 := valid_le_sum (l := l) (fun t ht => h t (by simp [ht]))
    simp only [sumS, List.map_cons, List.sum_cons, List.length_cons] at h2 ⊢
    omega

theorem parts_len (l : List Ow.C) : ∀ n : Nat, ((partsUp l n).length : Int) ≤ cntUp l n
  | 0 => by simp [partsUp, cntUp]
  | n + 1 => by
    have h1 := parts_len l n
    have h2 := valid_le_sum (ownS_valid l (n : Int)).1
    rw [partsUp, cntUp, count_ownS, List.length_append]
    omega

theorem parts_ints (l : List Ow.C) : ∀ n : Nat, ∀ s ∈ partsUp l n, -9223372036854775808 ≤ s.1 ∧ s.1 ≤ 9223372036854775807 ∧ -9223372036854775808 ≤ s.2 ∧ s.2 ≤ 9223372036854775807
  | 0, s, h => by simp [partsUp] at h
  | n + 1, s, h => by
    rw [partsUp, List.mem_append] at h
    rcases h with h | h
    · exact parts_ints l n s h
    · have := (Sp.mixS_spec 0 (ownedL l (n : Int)) []).1.1 s h
      omega

theorem mast_iff {l : List Ow.C} (h : Ow.VL l) {n : Nat} (hn : n < 8) : ((n : Int) ∈ mastS l) ↔ ownS l (n : Int) ≠ [] := by
  rw [mem_mastUp]
  constructor
  · rintro ⟨-, c, hc, he⟩ h0
    have hk := h.all c hc
    unfold Ow.okC at hk
    have ho := Ow.own_of h hc (k := c.f) (Ow.inC_iff.2 ⟨by omega, hk.2.1⟩)
    have := (has_ownS h).2 ⟨c.e, by rw [ho, he]⟩
    rw [h0] at this
    cases this
  · intro hne
    obtain ⟨s, r, hs⟩ := List.exists_cons_of_ne_nil hne
    have hv := (ownS_valid l (n : Int)).1 s (by rw [hs]; simp)
    have hh : Sp.hasB (ownS l (n : Int)) s.1 = true := Sp.hasB_iff.2 ⟨hv.1, by omega, s, by rw [hs]; simp, by omega, hv.2.1⟩
    obtain ⟨e, he⟩ := (has_ownS h).1 hh
    obtain ⟨c, hc, -, hx⟩ := Ow.own_some he
    simp only [Prod.mk.injEq] at hx
    exact ⟨by omega, c, hc, hx.1.symm⟩

theorem spL_snoc {l : List Ow.C} {k : Nat} (hk : k < l.length) : spL (l.take (k + 1)) = spL (l.take k) ++ [((l.getD k Ow.z).f, (l.getD k Ow.z).t)] := by
  unfold spL
  rw [List.take_succ_eq_append_getElem hk, List.map_append]
  simp [List.getD, hk]
end Go.Proofs.Ytchladbjhodkoaa
