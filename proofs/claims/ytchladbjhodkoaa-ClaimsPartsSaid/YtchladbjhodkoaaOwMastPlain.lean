/- Which nodes own claims: plain lists; ints in a row of the call's own; slices.Sort, slices.Compact at []int. -/
import Derived.Test.YtchladbjhodkoaaOwOwned
import Derived.Test.YtchladbjhodkoaaShelf
namespace Go.Proofs.Ytchladbjhodkoaa
open Go.RowKit
set_option linter.unusedVariables false
set_option linter.unusedSimpArgs false

/-- the nodes below n that own claims, rising. -/
def mastUp (l : List Ow.C) (n : Nat) : List Int := ((List.range n).map Int.ofNat).filter fun i => l.any fun c => decide (c.n = i)
abbrev mastS (l : List Ow.C) : List Int := mastUp l 8
abbrev nodesL (l : List Ow.C) : List Int := l.map (·.n)

theorem mastUp_succ (l : List Ow.C) (n : Nat) : mastUp l (n + 1) = mastUp l n ++ (if l.any (fun c => decide (c.n = (n : Int))) = true then [(n : Int)] else []) := by
  unfold mastUp
  rw [List.range_succ, List.map_append, List.filter_append]
  congr 1
  simp only [List.map_cons, List.map_nil, List.filter_cons, List.filter_nil]
  rfl

theorem mastUp_len (l : List Ow.C) (n : Nat) : (mastUp l n).length ≤ n := by
  unfold mastUp
  exact Nat.le_trans (List.length_filter_le _ _) (by simp)

theorem mem_mastUp {l : List Ow.C} {n : Nat} {x : Int} : x ∈ mastUp l n ↔ (0 ≤ x ∧ x < n) ∧ ∃ c ∈ l, c.n = x := by
  unfold mastUp
  simp only [List.mem_filter, List.mem_map, List.mem_range, List.any_eq_true, decide_eq_true_eq]
  constructor
  · rintro ⟨⟨k, hk, rfl⟩, h⟩
    exact ⟨⟨Int.natCast_nonneg _, by simpa using hk⟩, h⟩
  · rintro ⟨⟨h0, h1⟩, h⟩
    exact ⟨⟨x.toNat, by omega, by show ((x.toNat : Nat) : Int) = x; omega⟩, h⟩

theorem mastUp_ints {l : List Ow.C} {n : Nat} (hn : n ≤ 8) : ∀ x ∈ mastUp l n, -9223372036854775808 ≤ x ∧ x ≤ 9223372036854775807 := fun x hx => by
  have := (mem_mastUp.1 hx).1
  omega

theorem mastUp_up (l : List Ow.C) (n : Nat) : (mastUp l n).Pairwise (· < ·) := by
  unfold mastUp
  refine List.Pairwise.filter _ ?_
  rw [List.pairwise_map]
  exact List.pairwise_lt_range.imp fun h => by simpa using h

namespace It2
abbrev sortI (l : List Int) : List Int := l.mergeSort fun x y => decide (x ≤ y)
theorem sort_pair (l : List Int) : (sortI l).Pairwise fun a b => a ≤ b := by
  have := List.pairwise_mergeSort (le := fun x y : Int => decide (x ≤ y)) (fun a b c h1 h2 => by simp only [decide_eq_true_eq] at *; omega) (fun a b => by
    simp only [Bool.or_eq_true, decide_eq_true_eq]
    omega) l
  simpa [sortI] using this
theorem mem_sort {l : List Int} {x : Int} : x ∈ sortI l ↔ x ∈ l := (List.mergeSort_perm l _).mem_iff
theorem sort_len (l : List Int) : (sortI l).length = l.length := List.length_mergeSort l
theorem at_getD {d : List Int} {j : Nat} (hj : j < d.length) : d.toArray[j]! = d[j] := by simp [hj]

theorem mem_compact (d : List Int) (x : Int) : x ∈ Lib.compact d ↔ x ∈ d := by
  unfold Lib.compact Lib.compactUpTo
  simp only [List.mem_map, List.mem_filter, List.mem_range]
  constructor
  · rintro ⟨j, ⟨hj, -⟩, rfl⟩
    rw [at_getD hj]
    exact List.getElem_mem hj
  · intro hx
    obtain ⟨j, hj, rfl⟩ := List.getElem_of_mem hx
    induction j with
    | zero => exact ⟨0, ⟨hj, by simp [Lib.keeps]⟩, at_getD hj⟩
    | succ j ih =>
      by_cases hk : Lib.keeps d.toArray (j + 1) = true
      · exact ⟨j + 1, ⟨hj, hk⟩, at_getD hj⟩
      · obtain ⟨i, hi, e⟩ := ih (by omega) (List.getElem_mem (by omega))
        refine ⟨i, hi, e.trans ?_⟩
        simp only [Lib.keeps, decide_eq_true_eq, not_or, Decidable.not_not] at hk
        have := hk.2
        rw [at_getD hj, show j + 1 - 1 = j from rfl, at_getD (by omega)] at this
        exact this.symm
theorem compact_up {d : List Int} (h : d.Pairwise fun a b => a ≤ b) : (Lib.compact d).Pairwise (· < ·) := by
  unfold Lib.compact Lib.compactUpTo
  rw [List.pairwise_map, List.pairwise_filter]
  refine List.Pairwise.imp_of_mem (R := fun i j => i < j) ?_ List.pairwise_lt_range
  intro i j hi hj hij _ hk
  rw [List.mem_range] at hi hj
  rw [at_getD hi, at_getD hj]
  simp only [Lib.keeps, decide_eq_true_eq] at hk
  rcases hk with hk | hk
  · omega
  · rw [at_getD hj, at_getD (by omega)] at hk
    have h1 : d[j - 1] ≤ d[j] := List.pairwise_iff_getElem.1 h (j - 1) j (by omega) hj (by omega)
    by_cases e : i = j - 1
    · subst e
      omega
    · have h3 : d[i] ≤ d[j - 1] := List.pairwise_iff_getElem.1 h i (j - 1) hi (by omega) (by omega)
      omega
theorem up_ext {a b : List Int} (ha : a.Pairwise (· < ·)) (hb : b.Pairwise (· < ·)) (h : ∀ x, x ∈ a ↔ x ∈ b) : a = b :=
  List.Perm.eq_of_pairwise (le := fun a b : Int => a < b) (fun a b _ _ h1 h2 => by omega) ha hb ((List.perm_ext_iff_of_nodup (ha.imp fun h => by omega) (hb.imp fun h => by omega)).2 h)
theorem compact_len (ws : List Int) : (Lib.compact ws).length ≤ ws.length := by
  unfold Lib.compact Lib.compactUpTo
  rw [List.length_map]
  exact Nat.le_trans (List.length_filter_le _ _) (by simp)
end It2

theorem mast_eq {l : List Ow.C} (h : ∀ c ∈ l, 0 ≤ c.n ∧ c.n < 8) : Lib.compact (It2.sortI (nodesL l)) = mastS l :=
  It2.up_ext (It2.compact_up (It2.sort_pair _)) (mastUp_up l 8) fun x => by
    rw [It2.mem_compact, It2.mem_sort, mem_mastUp, List.mem_map]
    constructor
    · rintro ⟨c, hc, rfl⟩
      exact ⟨h c hc, c, hc, rfl⟩
    · rintro ⟨-, h⟩
      exact h

/-- ints in a row of the call's own. -/
def NRow (w wr : World) (v : Value) (ns : List Int) : Prop :=
  wr.ownsRow w.heap.size 3 1 v ns.length (ns.map (Value.int .i64)) ∧ Below w.heap.size w wr

theorem nrow_snoc {w wr w1 wa : World} {v v' : Value} {ns : List Int} {x : Int} (hB : Below w.heap.size w wr) (hown : wr.ownsRow w.heap.size 3 1 v ns.length (ns.map (Value.int .i64))) (ha : Below w.heap.size wr wa)
    (h1 : w1.ownsRow w.heap.size 3 1 v' (ns.length + 1) (ns.map (Value.int .i64) ++ [.int .i64 x])) (hg : wa.grownBy w1 v.ownBlock) : NRow w w1 v' (ns ++ [x]) := by
  refine ⟨?_, ?_⟩
  · rw [List.map_append, List.length_append]
    exact h1
  · refine (hB.trans ha).grown hg (Nat.le_trans hB.size ha.size) fun k hk => (hown.lt k hk).1

/-- .. as the sort's words have it. -/
def HRowI (w : World) (u : Value) (ws : List Int) (W : World) : Prop :=
  ∃ a cap, u = .slice a ws.length cap ∧ Ints W a cap ws ∧ cap ≤ 9223372036854775807 ∧ (ws ≠ [] → ∃ g, a = some ⟨g, 0, none⟩ ∧ w.heap.size ≤ g ∧ g < W.heap.size ∧ Go.Sort.Holds (Value.int .i64) W g 0 ws.toArray) ∧ Below w.heap.size w W

theorem holds_ints {W : World} {g cap : Nat} {ws : List Int} (h : Go.Sort.Holds (Value.int .i64) W g 0 ws.toArray) (hlt : g < W.heap.size) (hc : ws.length ≤ cap) (hs : ∀ x ∈ ws, -9223372036854775808 ≤ x ∧ x ≤ 9223372036854775807) : Ints W (some ⟨g, 0, none⟩) cap ws := by
  refine ⟨hc, hs, .inr ⟨g, 0, rfl, hlt, fun k hk => ?_⟩⟩
  have := (h k (by simpa using hk)).1
  rw [this]
  simp [List.getD, hk]

theorem hrowI_of {w W : World} {v : Value} {ws : List Int} (h : NRow w W v ws) (hs : ∀ x ∈ ws, -9223372036854775808 ≤ x ∧ x ≤ 9223372036854775807) : HRowI w v ws W := by
  obtain ⟨⟨_, hcase⟩, hb⟩ := h
  rcases hcase with ⟨rfl, hz⟩ | ⟨g, cap, cur, hv, hgB, hgg, hnc, hcm, hcs, htk⟩
  · have hws : ws = [] := by simpa using hz
    subst hws
    exact ⟨none, 0, rfl, ⟨by simp, by simp, .inl rfl⟩, by omega, fun h => (h rfl).elim, hb⟩
  · have hlt : g < W.heap.size := (Array.getElem?_eq_some_iff.1 hgg).1
    have hcell : ∀ k (hk : k < ws.length), W.cell? ⟨g, 0 + k, none⟩ = some (.int .i64 (ws.getD k 0)) := fun k hk => by
      rw [Nat.zero_add, cell_of_row W g k cur 3 (0, 0) hgg]
      have := congrArg (fun l : List Value => l[k]?) htk
      simp only [Nat.mul_one] at this
      simp [hk] at this
      rw [this]
      simp [List.getD, hk]
    refine ⟨_, cap, hv, ⟨hnc, hs, .inr ⟨g, 0, rfl, hlt, hcell⟩⟩, by unfold maxLen at hcm; omega, fun _ => ⟨g, rfl, hgB, hlt, fun j hj => ⟨?_, by simp [World.frozen?, hgg]⟩⟩, hb⟩
    simp only [List.size_toArray] at hj
    rw [hcell j hj]
    simp [List.getD, hj]

theorem putRow_keepsI {w W : World} {g n : Nat} {d : Array Int} {os : Array Obj} (hg : w.heap.size ≤ g) (hb : Below w.heap.size w W) : Below w.heap.size w (Go.Sort.grow (Go.Sort.putRow (Value.int .i64) (Go.Sort.ahead W n) g 0 d) os) := by
  refine hb.trans ⟨rfl, rfl, rfl, ?_, ?_⟩
  · rw [Go.Sort.size_grow, Go.Sort.size_putRow]
    show W.heap.size ≤ W.heap.size + os.size
    omega
  · intro k hk
    have hkW : k < W.heap.size := Nat.lt_of_lt_of_le hk hb.size
    rw [Go.Sort.heap_grow_old _ _ (by rw [Go.Sort.size_putRow]; exact hkW)]
    simp only [Go.Sort.putRow, Go.Sort.mapBlock]
    show (W.heap.modify g _)[k]? = _
    rw [Array.getElem?_modify, if_neg (fun e => by omega)]

/-- slices.Sort at such a row. -/
theorem sortI_any {w W : World} {v : Value} {ws : List Int} (h : HRowI w v ws W) (hn : ws.length ≤ 1000000) :
    Calls Try.prog 42 #[v] W fun e W' => e = .returned (.tuple #[]) ∧ HRowI w v (It2.sortI ws) W' := by
  obtain ⟨a, cap, rfl, hwd, hc2, hown, hb⟩ := h
  by_cases hz : ws = []
  · subst hz
    refine (Try.slices_Sort_int_none a cap W).mono ?_
    rintro e W' ⟨he, rfl⟩
    rw [show It2.sortI [] = [] by simp [It2.sortI]]
    exact ⟨he, a, cap, rfl, hwd, hc2, fun h => (h rfl).elim, hb⟩
  · obtain ⟨g, rfl, h1, h2, hH⟩ := hown hz
    refine (Try.slices_Sort_int g 0 cap ws W hH h2 (by omega)).mono ?_
    rintro e W' ⟨he, n, os, rfl⟩
    have hsz : (It2.sortI ws).toArray.size = ws.toArray.size := by simp [It2.sort_len]
    have hh : Go.Sort.Holds (Value.int .i64) (Go.Sort.grow (Go.Sort.putRow (Value.int .i64) (Go.Sort.ahead W n) g 0 (It2.sortI ws).toArray) os) g 0 (It2.sortI ws).toArray :=
      Go.Sort.holds_grow _ _ _ _ _ _ (by simpa [Go.Sort.ahead] using h2) (Go.Sort.holds_putRow _ _ _ _ ws.toArray _ (Go.Sort.holds_ahead _ _ _ _ _ _ hH) hsz)
    have hlt : g < (Go.Sort.grow (Go.Sort.putRow (Value.int .i64) (Go.Sort.ahead W n) g 0 (It2.sortI ws).toArray) os).heap.size := by
      rw [Go.Sort.size_grow, Go.Sort.size_putRow]
      show g < W.heap.size + os.size
      omega
    exact ⟨he, _, cap, by rw [It2.sort_len], holds_ints hh hlt (by rw [It2.sort_len]; exact hwd.1) (fun s hs => hwd.2.1 s (It2.mem_sort.1 hs)), hc2, fun _ => ⟨g, rfl, h1, hlt, hh⟩, putRow_keepsI h1 hb⟩

theorem holdsI_left {W : World} {g : Nat} {xs ys : List Int} (h : Go.Sort.Holds (Value.int .i64) W g 0 (xs ++ ys).toArray) : Go.Sort.Holds (Value.int .i64) W g 0 xs.toArray := by
  intro j hj
  simp only [List.size_toArray] at hj
  have := h j (by simp; omega)
  refine ⟨?_, this.2⟩
  rw [this.1]
  simp [hj, show j < xs.length + ys.length by omega]

/-- slices.Compact at such a row. -/
theorem compactI_any {w W : World} {v : Value} {ws : List Int} (h : HRowI w v ws W) :
    Calls Try.prog 43 #[v] W fun e W' => ∃ u, e = .returned u ∧ HRowI w u (Lib.compact ws) W' := by
  obtain ⟨a, cap, rfl, hwd, hc2, hown, hb⟩ := h
  by_cases hz : ws = []
  · subst hz
    refine (Try.slices_Compact_int_empty a cap W).mono ?_
    rintro e W' ⟨he, rfl⟩
    exact ⟨_, he, a, cap, rfl, hwd, hc2, fun h => (h rfl).elim, hb⟩
  · obtain ⟨g, rfl, h1, h2, hH⟩ := hown hz
    refine (Try.slices_Compact_int g 0 cap ws W hH (Nat.le_trans hwd.1 hc2) hwd.1).mono ?_
    rintro e W' ⟨he, n, rfl⟩
    have hcl := It2.compact_len ws
    have hsz : (Lib.compact ws ++ List.replicate (ws.length - (Lib.compact ws).length) 0).toArray.size = ws.toArray.size := by simp; omega
    have hh := holdsI_left (Go.Sort.holds_putRow (Value.int .i64) (Go.Sort.ahead W n) g 0 ws.toArray (Lib.compact ws ++ List.replicate (ws.length - (Lib.compact ws).length) 0).toArray (Go.Sort.holds_ahead _ _ _ _ _ _ hH) hsz)
    have hlt : g < (Go.Sort.putRow (Value.int .i64) (Go.Sort.ahead W n) g 0 (Lib.compact ws ++ List.replicate (ws.length - (Lib.compact ws).length) 0).toArray).heap.size := by
      rw [Go.Sort.size_putRow]
      exact h2
    refine ⟨_, he, _, cap, rfl, holds_ints hh hlt (Nat.le_trans hcl hwd.1) (fun s hs => hwd.2.1 s ((It2.mem_compact ws s).1 hs)), hc2, fun _ => ⟨g, rfl, h1, hlt, hh⟩, ?_⟩
    have := putRow_keepsI (n := n) (d := (Lib.compact ws ++ List.replicate (ws.length - (Lib.compact ws).length) 0).toArray) (os := #[]) h1 hb
    simp [Go.Sort.grow] at this
    exact this
end Go.Proofs.Ytchladbjhodkoaa
