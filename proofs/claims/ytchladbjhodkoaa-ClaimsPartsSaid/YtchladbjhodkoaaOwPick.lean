/- The wishes of claims.Join and claims.Give: the newer owner; the second one where there is one. -/
import Derived.Test.YtchladbjhodkoaaOwAdded
import Derived.Test.YtchladbjhodkoaaShelf
namespace Go.Proofs.Ytchladbjhodkoaa
open Go.RowKit Go.Shelf
attribute [local go_sem] Oper.semAt_some

set_option maxHeartbeats 2000000 in
/-- cmp.Or of two. -/
theorem or_two (b : Nat) (x y : Int) (w : World) (h0 : w.cell? ⟨b, 0, none⟩ = some (.int .i64 x)) (h1 : w.cell? ⟨b, 1, none⟩ = some (.int .i64 y)) :
    Calls Try.prog 37 #[.slice (some ⟨b, 0, none⟩) 2 2] w fun e w' => e = .returned (.int .i64 (if x = 0 then y else x)) ∧ w' = w := by
  by_cases hx : x = 0
  · rw [if_pos hx]
    subst hx
    by_cases hy : y = 0
    · subst hy
      go_enter Try.func37, Try.ntmps37
      go_wp2
      go_loop [8] (fun i => i = .int .i64 0 ∨ i = .int .i64 1 ∨ i = .int .i64 2) (fun i => 2 - (intOf i).toNat)
      case atStart => exact .inl rfl
      case round =>
        rcases hrel with rfl | rfl | rfl
        · go_wp2
          go_round
          case rel => exact .inr (.inl rfl)
          case measure => simp [intOf]
        · go_wp2
          go_round
          case rel => exact .inr (.inr rfl)
          case measure => simp [intOf]
        · go_wp2
          go_ret
          exact ⟨rfl, rfl⟩
    · go_enter Try.func37, Try.ntmps37
      go_wp2
      go_loop [8] (fun i => i = .int .i64 0 ∨ i = .int .i64 1) (fun i => 2 - (intOf i).toNat)
      case atStart => exact .inl rfl
      case round =>
        rcases hrel with rfl | rfl
        · go_wp2
          go_round
          case rel => exact .inr rfl
          case measure => simp [intOf]
        · go_wp2
          go_ret
          exact ⟨rfl, rfl⟩
  · rw [if_neg hx]
    go_enter Try.func37, Try.ntmps37
    go_wp2
    go_loop [8] (fun i => i = .int .i64 0) (fun i => 2 - (intOf i).toNat)
    case atStart => rfl
    case round =>
      subst hrel
      go_wp2
      go_ret
      exact ⟨rfl, rfl⟩

theorem cmp_neg (x y : Int) : Lib.compareInt x y < 0 ↔ x < y := by unfold Lib.compareInt; split <;> (try split) <;> omega
theorem cmp_zero (x y : Int) : Lib.compareInt x y = 0 ↔ x = y := by unfold Lib.compareInt; split <;> (try split) <;> omega

/-- what a wish is asked of: a pick's contract. -/
def PickOK (pf : Nat) (want : Option Ow.O → Option Ow.O → Option Ow.O) : Prop :=
  ∀ a b, Ow.okO a → Ow.okO b → ∀ W, CallsIn Fence.wide 0 Try.prog pf #[.agg #[.int .i64 (Ow.zo a).1, .int .i64 (Ow.zo a).2, .int .i64 (Ow.zo b).1, .int .i64 (Ow.zo b).2]] W fun e W' =>
    e = .returned (.agg #[.int .i64 (Ow.zo (want a b)).1, .int .i64 (Ow.zo (want a b)).2]) ∧ Below W.heap.size W W'

theorem zo_join {a b : Option Ow.O} (ha : Ow.okO a) (hb : Ow.okO b) : Ow.zo (Ow.joinO a b) = if (Ow.zo a).2 < (Ow.zo b).2 ∨ ((Ow.zo a).2 = (Ow.zo b).2 ∧ (Ow.zo a).1 < (Ow.zo b).1) then Ow.zo b else Ow.zo a := by
  cases a with
  | none =>
    cases b with
    | none => simp [Ow.zo, Ow.joinO]
    | some b =>
      have := hb b rfl
      rw [if_pos (by simp only [Ow.zo]; omega)]
      rfl
  | some a =>
    cases b with
    | none =>
      have := ha a rfl
      rw [if_neg (by simp only [Ow.zo]; omega)]
      rfl
    | some b =>
      simp only [Ow.joinO]
      by_cases h : a.2 < b.2 ∨ (a.2 = b.2 ∧ a.1 < b.1)
      · rw [if_pos h, if_pos (by exact h)]
      · rw [if_neg h, if_neg (by exact h)]

set_option maxRecDepth 100000 in
set_option maxHeartbeats 4000000 in
theorem pick_join_calls (n1 e1 n2 e2 x y : Int) (hxy : (if e1 < e2 ∨ (e1 = e2 ∧ n1 < n2) then (n2, e2) else (n1, e1)) = (x, y)) (W : World) : Calls Try.prog 36 #[.agg #[.int .i64 n1, .int .i64 e1, .int .i64 n2, .int .i64 e2]] W fun e W' =>
    e = .returned (.agg #[.int .i64 x, .int .i64 y]) ∧ Below W.heap.size W W' := by
  have hcon := fun x y W' => Try.cmp_Compare_int x y W'
  obtain ⟨q1, hq1⟩ : ∃ q, Lib.compareInt e1 e2 = q := ⟨_, rfl⟩
  obtain ⟨q2, hq2⟩ : ∃ q, Lib.compareInt n1 n2 = q := ⟨_, rfl⟩
  have HC1 : Hid (∀ W', Calls Try.prog 38 #[.int .i64 e1, .int .i64 e2] W' fun e w' => e = .returned (.int .i64 q1) ∧ w' = W') := Lib.hid fun W' => by rw [← hq1]; exact hcon e1 e2 W'
  have HC2 : Hid (∀ W', Calls Try.prog 38 #[.int .i64 n1, .int .i64 n2] W' fun e w' => e = .returned (.int .i64 q2) ∧ w' = W') := Lib.hid fun W' => by rw [← hq2]; exact hcon n1 n2 W'
  obtain ⟨r, hr⟩ : ∃ r, (if q1 = 0 then q2 else q1) = r := ⟨_, rfl⟩
  have hneg : r < 0 ↔ (e1 < e2 ∨ (e1 = e2 ∧ n1 < n2)) := by
    rw [← hr, ← hq1, ← hq2]
    have := cmp_neg e1 e2
    have := cmp_zero e1 e2
    have := cmp_neg n1 n2
    split <;> omega
  have HOR : Hid (∀ b w, w.cell? ⟨b, 0, none⟩ = some (.int .i64 q1) → w.cell? ⟨b, 1, none⟩ = some (.int .i64 q2) → Calls Try.prog 37 #[.slice (some ⟨b, 0, none⟩) 2 2] w fun e w' => e = .returned (.int .i64 r) ∧ w' = w) := Lib.hid fun b w h0 h1 => by rw [← hr]; exact or_two b q1 q2 w h0 h1
  have HN : Hid ((r < 0 → x = n2 ∧ y = e2) ∧ (¬ r < 0 → x = n1 ∧ y = e1)) := Lib.hid ⟨fun h => by rw [if_pos (hneg.1 h)] at hxy; cases hxy; exact ⟨rfl, rfl⟩, fun h => by rw [if_neg (fun h' => h (hneg.2 h'))] at hxy; cases hxy; exact ⟨rfl, rfl⟩⟩
  clear hxy hcon hr hneg hq1 hq2
  go_enter Try.func36, Try.ntmps36
  go_wp2
  obtain ⟨wb, hwb⟩ : ∃ wb, (W.alloc (.cells #[.int .i64 n1, .int .i64 e1, .int .i64 n2, .int .i64 e2] 65)).alloc (.cells #[.int .i64 0, .int .i64 0] 63) = wb := ⟨_, rfl⟩
  have hb0 : Below W.heap.size W wb := by rw [← hwb]; exact ((Below.refl _ W).alloc (Nat.le_refl _) _).alloc (by simp) _
  have hsz : wb.heap.size = W.heap.size + 1 + 1 := by rw [← hwb]; simp
  have hbk : wb.heap[W.heap.size]? = some (.cells #[.int .i64 n1, .int .i64 e1, .int .i64 n2, .int .i64 e2] 65 (0, 0)) := by
    rw [← hwb]
    exact (Below.heap_alloc _ _ _ (by simp)).trans (World.alloc_heap_new W _)
  have hbo : wb.heap[W.heap.size + 1]? = some (.cells #[.int .i64 0, .int .i64 0] 63 (0, 0)) := by
    rw [← hwb]
    have := World.alloc_heap_new (W.alloc (.cells #[.int .i64 n1, .int .i64 e1, .int .i64 n2, .int .i64 e2] 65)) (.cells #[.int .i64 0, .int .i64 0] 63)
    rwa [World.size_alloc] at this
  have d1 : wb.cell? ⟨W.heap.size, 0, none⟩ = some (.int .i64 n1) := by simp [World.cell?, hbk]
  have d2 : wb.cell? ⟨W.heap.size, 1, none⟩ = some (.int .i64 e1) := by simp [World.cell?, hbk]
  have d3 : wb.cell? ⟨W.heap.size, 2, none⟩ = some (.int .i64 n2) := by simp [World.cell?, hbk]
  have d4 : wb.cell? ⟨W.heap.size, 3, none⟩ = some (.int .i64 e2) := by simp [World.cell?, hbk]
  rw [hwb]
  clear hwb hbk
  go_region_held3 (fun w' => (w'.cell? ⟨W.heap.size, 0, none⟩ = some (.int .i64 n1) ∧ w'.cell? ⟨W.heap.size, 1, none⟩ = some (.int .i64 e1)) ∧ (w'.cell? ⟨W.heap.size, 2, none⟩ = some (.int .i64 n2) ∧ w'.cell? ⟨W.heap.size, 3, none⟩ = some (.int .i64 e2)))
    (first
      | go_keep)
    (first
      | (go_at_call 38; with_reducible refine (HC1.out _).mono ?_; rintro e w1 ⟨rfl, rfl⟩)
      | (go_at_call 38; with_reducible refine (HC2.out _).mono ?_; rintro e w1 ⟨rfl, rfl⟩)
      | (go_at_call 37; refine (HOR.out _ _ (by rw [World.cell?_drew, ← hsz, World.cell?_alloc_new]; rfl) (by rw [World.cell?_drew, ← hsz, World.cell?_alloc_new]; rfl)).mono ?_; rintro e w1 ⟨rfl, rfl⟩))
  have hb1 : Below W.heap.size W (wb.alloc (.cells #[.int .i64 q1, .int .i64 q2] 3)).drew := (hb0.alloc hb0.size _).drew
  have hk : Below wb.heap.size wb (wb.alloc (.cells #[.int .i64 q1, .int .i64 q2] 3)).drew := ((Below.refl _ wb).alloc (Nat.le_refl _) _).drew
  have g1 := (hk.cell (p := ⟨W.heap.size, 0, none⟩) (by simp only; omega)).trans d1
  have g2 := (hk.cell (p := ⟨W.heap.size, 1, none⟩) (by simp only; omega)).trans d2
  have g3 := (hk.cell (p := ⟨W.heap.size, 2, none⟩) (by simp only; omega)).trans d3
  have g4 := (hk.cell (p := ⟨W.heap.size, 3, none⟩) (by simp only; omega)).trans d4
  have go := (hk.block (W.heap.size + 1) (by omega)).trans hbo
  generalize (wb.alloc (.cells #[.int .i64 q1, .int .i64 q2] 3)).drew = wd at *
  have f1 : wd.frozen? ⟨W.heap.size + 1, 0, none⟩ = false := by simp [World.frozen?, go]
  have f2 : wd.frozen? ⟨W.heap.size + 1, 1, none⟩ = false := by simp [World.frozen?, go]
  have k1 : wd.cell? ⟨W.heap.size + 1, 0, none⟩ = some (.int .i64 0) := by simp [World.cell?, go]
  have k2 : wd.cell? ⟨W.heap.size + 1, 1, none⟩ = some (.int .i64 0) := by simp [World.cell?, go]
  have HST : Hid (∀ x y : Value, (loadVar 63 ⟨W.heap.size + 1, 0, none⟩).run Try.prog ((wd.setCell ⟨W.heap.size + 1, 0, none⟩ x).setCell ⟨W.heap.size + 1, 1, none⟩ y) = .ok (.agg #[x, y]) ((wd.setCell ⟨W.heap.size + 1, 0, none⟩ x).setCell ⟨W.heap.size + 1, 1, none⟩ y) ∧ Below W.heap.size W ((wd.setCell ⟨W.heap.size + 1, 0, none⟩ x).setCell ⟨W.heap.size + 1, 1, none⟩ y)) := Lib.hid fun x y => by
    refine ⟨loadOwner _ _ _ _ ?_ ?_, (hb1.setCell (p := ⟨W.heap.size + 1, 0, none⟩) (by simp) _).setCell (p := ⟨W.heap.size + 1, 1, none⟩) (by simp) _⟩
    · simp [World.cell?, World.setCell, Array.getElem?_modify, go]
    · simp [World.cell?, World.setCell, Array.getElem?_modify, go]
  clear hbo hb0 hb1 hk d1 d2 d3 d4 go hsz HC1 HC2 HOR
  by_cases hr0 : r < 0
  · go_wp2
    refine bodyPost_ret (ow_cell rfl rfl (HST.out _ _).1) rfl ⟨by rw [(HN.out.1 hr0).1, (HN.out.1 hr0).2], (HST.out _ _).2⟩
  · go_wp2
    refine bodyPost_ret (ow_cell rfl rfl (HST.out _ _).1) rfl ⟨by rw [(HN.out.2 hr0).1, (HN.out.2 hr0).2], (HST.out _ _).2⟩

theorem pick_join : PickOK 36 Ow.joinO := fun _ _ ha hb W => callsIn_wide.2 (pick_join_calls _ _ _ _ _ _ (zo_join ha hb).symm W)

theorem cell_alloc2 (W : World) (o : Obj) (xs : Array Value) (T : TypeId) (j : Nat) : ((W.alloc o).alloc (.cells xs T)).cell? ⟨W.heap.size + 1, j, none⟩ = xs[j]? := by
  have := World.cell?_alloc_new (W.alloc o) xs T j
  rwa [World.size_alloc] at this

set_option maxHeartbeats 2000000 in
theorem pick_give_calls (n1 e1 n2 e2 : Int) (W : World) : Calls Try.prog 45 #[.agg #[.int .i64 n1, .int .i64 e1, .int .i64 n2, .int .i64 e2]] W fun e W' =>
    e = .returned (if n2 = 0 ∧ e2 = 0 then .agg #[.int .i64 n1, .int .i64 e1] else .agg #[.int .i64 n2, .int .i64 e2]) ∧ Below W.heap.size W W' := by
  by_cases h2 : n2 = 0 ∧ e2 = 0
  · rw [if_pos h2]
    obtain ⟨rfl, rfl⟩ := h2
    go_enter Try.func45, Try.ntmps45
    go_wp2
    refine bodyPost_ret (ow_cell rfl rfl (loadOwner _ _ _ _ (cell_alloc2 _ _ _ _ _) (cell_alloc2 _ _ _ _ _))) rfl ⟨rfl, ((Below.refl _ W).alloc (Nat.le_refl _) _).alloc (by simp) _⟩
  · rw [if_neg h2]
    have hq : ¬ (Value.agg #[.int .i64 n2, .int .i64 e2] = Value.agg #[.int .i64 0, .int .i64 0]) := by simpa using h2
    go_enter Try.func45, Try.ntmps45
    go_wp2
    all_goals refine bodyPost_ret (ow_cell rfl rfl (loadOwner _ _ _ _ (cell_alloc2 _ _ _ _ _) (cell_alloc2 _ _ _ _ _))) rfl ⟨?_, ((Below.refl _ W).alloc (Nat.le_refl _) _).alloc (by simp) _⟩
    all_goals first | rfl | simp_all

theorem pick_give : PickOK 45 Ow.giveO := fun _ b _ hb W => callsIn_wide.2 ((pick_give_calls _ _ _ _ W).mono fun e w' ⟨he, hB⟩ => by
  refine ⟨?_, hB⟩
  rw [he]
  cases b with
  | none => simp [Ow.zo, Ow.giveO]
  | some b =>
    have := hb b rfl
    rw [if_neg (by simp only [Ow.zo]; omega)]
    rfl)
end Go.Proofs.Ytchladbjhodkoaa
