/- The contracts of readSpan and follows. -/
import Derived.Test.YtlbmkgnfbkimaaaDoorReadSlot
import Derived.Test.YtlbmkgnfbkimaaaDoorSpRef
import Derived.Test.YtlbmkgnfbkimaaaDoorSeqJoin
import Derived.IntWalk
namespace Go.Proofs.YtlbmkgnfbkimaaaDoor
open Go.RowKit

/-- what readSpan hands back. -/
def SpanPost (o : Option Sp.S) (w : World) (e : Ending) (w' : World) : Prop :=
  (∃ x y : Int, e = .returned (.tuple #[.agg #[.int .i64 x, .int .i64 y], .bool o.isSome]) ∧ ∀ s, o = some s → s = (x, y)) ∧ Below w.heap.size w w'

set_option maxRecDepth 100000 in
set_option maxHeartbeats 2000000 in
theorem readSpan_one (s : ByteArray) (w : World) (hs : s.size ≤ 1000000) (hsp : Tags.split 45 s.data.toList = none) :
    Calls Tryd.prog 46 #[.string s] w (SpanPost (Rs.span s.data.toList) w) := by
  have hc := fun W => cut_none s 45 W hsp
  have hr := fun W => readSlot_any s W hs
  have hspan : Rs.span s.data.toList = (Rs.slot s.data.toList).map fun n => (n, n) := by unfold Rs.span; rw [hsp]
  have HSP := Lib.hid hspan
  clear hsp hspan
  cases ho : Rs.slot s.data.toList with
  | none =>
    rw [ho] at hr
    have HOO := Lib.hid ho
    clear ho
    go_enter Tryd.func46, Tryd.ntmps46
    go_wp2_with (first | (go_at_call 58; refine (hc _).mono ?_; rintro e w' ⟨rfl, rfl⟩) | (go_at_call 59; refine (hr _).mono ?_; rintro e w' ⟨rfl, rfl⟩))
    refine bodyPost_ret (v := .tuple #[.agg #[.int .i64 0, .int .i64 0], .bool false]) (by simp [results, Tryd.f46, go_sem]) rfl ⟨?_, ?_⟩
    · rw [HSP.out, HOO.out]
      exact ⟨0, 0, rfl, by simp⟩
    · exact ((Below.refl _ _).alloc (Nat.le_refl _) _)
  | some n =>
    rw [ho] at hr
    have HOO := Lib.hid ho
    clear ho
    go_enter Tryd.func46, Tryd.ntmps46
    go_wp2_with (first | (go_at_call 58; refine (hc _).mono ?_; rintro e w' ⟨rfl, rfl⟩) | (go_at_call 59; refine (hr _).mono ?_; rintro e w' ⟨rfl, rfl⟩))
    refine bodyPost_ret (v := .tuple #[.agg #[.int .i64 n, .int .i64 n], .bool true]) (by simp [results, Tryd.f46, go_sem]) rfl ⟨?_, ?_⟩
    · rw [HSP.out, HOO.out]
      exact ⟨n, n, rfl, by simp⟩
    · exact ((Below.refl _ _).alloc (Nat.le_refl _) _)

/-- a result cell's block, behind what has only laid blocks. -/
theorem cell_later {w w1 : World} {o : Obj} (hb : Below (w.alloc o).heap.size (w.alloc o) w1) : w1.heap[w.heap.size]? = (w.alloc o).heap[w.heap.size]? := hb.block _ (by simp)

set_option maxRecDepth 100000 in
set_option maxHeartbeats 2000000 in
theorem readSpan_two (s : ByteArray) (a b : List UInt8) (w : World) (hs : s.size ≤ 1000000) (hsp : Tags.split 45 s.data.toList = some (a, b)) :
    Calls Tryd.prog 46 #[.string s] w (SpanPost (Rs.span s.data.toList) w) := by
  have hlen : a.length + 1 + b.length = s.size := by
    have := congrArg List.length (Tags.split_some hsp).1
    simp at this
    rw [this]; omega
  have hc := fun W => cut_some s 45 a b W (by unfold maxLen; omega) hsp
  have hra := fun W => readSlot_any ⟨a.toArray⟩ W (by show a.toArray.size ≤ _; simp; omega)
  have hrb := fun W => readSlot_any ⟨b.toArray⟩ W (by show b.toArray.size ≤ _; simp; omega)
  simp only at hra hrb
  have hspan : Rs.span s.data.toList = (match Rs.slot a, Rs.slot b with | some n, some m => if n < m then some (n, m) else none | _, _ => none) := by unfold Rs.span; rw [hsp]; rfl
  have HSP := Lib.hid hspan
  clear hsp hspan hlen
  cases hoa : Rs.slot a with
  | none =>
    rw [hoa] at hra
    have HOA := Lib.hid hoa
    clear hoa
    go_enter Tryd.func46, Tryd.ntmps46
    go_wp2_with fail
    refine (hc _).mono ?_
    rintro e w1 ⟨rfl, hb⟩
    have hk : w1.heap[w.heap.size]? = some (.cells #[.int .i64 0, .int .i64 0] 39 (0, 0)) := (cell_later hb).trans (World.alloc_heap_new w _)
    obtain ⟨k1, k2, k3, k4⟩ := cells_two hk
    obtain ⟨f1, f2, -, -⟩ := cells_two (heap_two hk (.int .i64 0) (.int .i64 0))
    have HB := Lib.hid hb
    clear hb hk
    go_wp2_with (go_at_call 59; refine (hra _).mono ?_; rintro e w' ⟨rfl, rfl⟩)
    refine bodyPost_ret (v := .tuple #[.agg #[.int .i64 0, .int .i64 0], .bool false]) (by simp [results, Tryd.f46, go_sem, f1, f2]) rfl ⟨?_, ?_⟩
    · rw [HSP.out, HOA.out]
      exact ⟨0, 0, rfl, by simp⟩
    · exact ((((Below.refl _ _).alloc (Nat.le_refl _) _).trans (HB.out.mono (by simp))).setCell (Nat.le_refl _) _).setCell (Nat.le_refl _) _
  | some n =>
    rw [hoa] at hra
    have HOA := Lib.hid hoa
    clear hoa
    cases hob : Rs.slot b with
    | none =>
      rw [hob] at hrb
      have HOB := Lib.hid hob
      clear hob
      go_enter Tryd.func46, Tryd.ntmps46
      go_wp2_with fail
      refine (hc _).mono ?_
      rintro e w1 ⟨rfl, hb⟩
      have hk : w1.heap[w.heap.size]? = some (.cells #[.int .i64 0, .int .i64 0] 39 (0, 0)) := (cell_later hb).trans (World.alloc_heap_new w _)
      obtain ⟨k1, k2, k3, k4⟩ := cells_two hk
      obtain ⟨f1, f2, -, -⟩ := cells_two (heap_two hk (.int .i64 n) (.int .i64 0))
      have HB := Lib.hid hb
      clear hb hk
      go_wp2_with (go_at_call 59; refine (hra _).mono ?_; rintro e w' ⟨rfl, rfl⟩; clear hra)
      go_wp2_with (go_at_call 59; refine (hrb _).mono ?_; rintro e w' ⟨rfl, rfl⟩)
      refine bodyPost_ret (v := .tuple #[.agg #[.int .i64 n, .int .i64 0], .bool false]) (by simp [results, Tryd.f46, go_sem, f1, f2]) rfl ⟨?_, ?_⟩
      · rw [HSP.out, HOA.out, HOB.out]
        exact ⟨n, 0, rfl, by simp⟩
      · exact ((((Below.refl _ _).alloc (Nat.le_refl _) _).trans (HB.out.mono (by simp))).setCell (Nat.le_refl _) _).setCell (Nat.le_refl _) _
    | some m =>
      rw [hob] at hrb
      have HOB := Lib.hid hob
      clear hob
      by_cases hnm : n < m
      all_goals
        go_enter Tryd.func46, Tryd.ntmps46
        go_wp2_with fail
        refine (hc _).mono ?_
        rintro e w1 ⟨rfl, hb⟩
        have hk : w1.heap[w.heap.size]? = some (.cells #[.int .i64 0, .int .i64 0] 39 (0, 0)) := (cell_later hb).trans (World.alloc_heap_new w _)
        obtain ⟨k1, k2, k3, k4⟩ := cells_two hk
        obtain ⟨f1, f2, -, -⟩ := cells_two (heap_two hk (.int .i64 n) (.int .i64 m))
        have HB := Lib.hid hb
        clear hb hk
        go_wp2_with (go_at_call 59; refine (hra _).mono ?_; rintro e w' ⟨rfl, rfl⟩; clear hra)
        go_wp2_with (go_at_call 59; refine (hrb _).mono ?_; rintro e w' ⟨rfl, rfl⟩)
      · refine bodyPost_ret (v := .tuple #[.agg #[.int .i64 n, .int .i64 m], .bool true]) (by simp [results, Tryd.f46, go_sem, f1, f2]) rfl ⟨?_, ?_⟩
        · rw [HSP.out, HOA.out, HOB.out]
          exact ⟨n, m, by simp [hnm], by simp [hnm]⟩
        · exact ((((Below.refl _ _).alloc (Nat.le_refl _) _).trans (HB.out.mono (by simp))).setCell (Nat.le_refl _) _).setCell (Nat.le_refl _) _
      · refine bodyPost_ret (v := .tuple #[.agg #[.int .i64 n, .int .i64 m], .bool false]) (by simp [results, Tryd.f46, go_sem, f1, f2]; omega) rfl ⟨?_, ?_⟩
        · rw [HSP.out, HOA.out, HOB.out]
          dsimp only
          rw [if_neg (show ¬ n < m by omega)]
          exact ⟨n, m, rfl, by simp⟩
        · exact ((((Below.refl _ _).alloc (Nat.le_refl _) _).trans (HB.out.mono (by simp))).setCell (Nat.le_refl _) _).setCell (Nat.le_refl _) _

theorem readSpan_any (s : ByteArray) (w : World) (hs : s.size ≤ 1000000) :
    Calls Tryd.prog 46 #[.string s] w (SpanPost (Rs.span s.data.toList) w) := by
  cases h : Tags.split 45 s.data.toList with
  | none => exact readSpan_one s w hs h
  | some p => exact readSpan_two s p.1 p.2 w hs h

set_option maxRecDepth 100000 in
set_option maxHeartbeats 2000000 in
/-- follows of no spans. -/
theorem follows_nil (a : Option Addr) (cap : Nat) (s : Sp.S) (w : World) :
    Calls Tryd.prog 30 #[.slice a 0 cap, .agg #[.int .i64 s.1, .int .i64 s.2]] w fun e w' => e = .returned (.bool true) ∧ Below w.heap.size w w' := by
  go_enter Tryd.func30, Tryd.ntmps30
  go_wp2
  go_quiet (fail)
  go_wp2
  go_ret
  exact ⟨rfl, below_drewN ((Below.refl _ _).alloc (Nat.le_refl _) _) _⟩

set_option maxRecDepth 100000 in
set_option maxHeartbeats 4000000 in
/-- follows of some. -/
theorem follows_some (b off cap : Nat) (l : List Sp.S) (s : Sp.S) (w : World) (h0 : 0 < l.length) (hl : l.length ≤ 1000000) (hb : b < w.heap.size) (hr : ∀ t ∈ l, 0 ≤ t.1 ∧ t.1 < 16384 ∧ 0 ≤ t.2 ∧ t.2 < 16384)
    (hc : ∀ k, k < l.length → w.cell? ⟨b, off + k * 2, none⟩ = some (.int .i64 (l.getD k (0, 0)).1) ∧ w.cell? ⟨b, off + k * 2 + 1, none⟩ = some (.int .i64 (l.getD k (0, 0)).2)) :
    Calls Tryd.prog 30 #[.slice (some ⟨b, off, none⟩) l.length cap, .agg #[.int .i64 s.1, .int .i64 s.2]] w fun e w' => e = .returned (.bool (decide ((l.getD (l.length - 1) (0, 0)).2 + 1 < s.1))) ∧ Below w.heap.size w w' := by
  have c2 := (hc (l.length - 1) (by omega)).2
  have hm : l.getD (l.length - 1) (0, 0) ∈ l := by simp [List.getD, show l.length - 1 < l.length by omega]
  obtain ⟨-, -, r1, r2⟩ := hr _ hm
  generalize l.getD (l.length - 1) (0, 0) = t at c2 r1 r2
  have hbw : b ≠ w.heap.size := by omega
  have ew : IntKind.i64.wrap ((l.length : Int) - 1) = (l.length : Int) - 1 := IntWalk.i64_in _ (by omega)
  have en : ((l.length : Int) - 1).toNat = l.length - 1 := by omega
  have eq1 : (0 : Int) ≤ (l.length : Int) - 1 := by omega
  have eq2 : (l.length : Int) - 1 < (l.length : Int) := by omega
  have ne : ((l.length : Int) == 0) = false := by rw [beq_eq_false_iff_ne]; omega
  have et : IntKind.i64.wrap (t.2 + 1) = t.2 + 1 := IntWalk.i64_in _ (by omega)
  go_enter Tryd.func30, Tryd.ntmps30
  go_wp2
  go_quiet (fail)
  go_wp2
  go_ret
  exact ⟨rfl, below_drewN ((Below.refl _ _).alloc (Nat.le_refl _) _) _⟩

theorem follows_any (a : Option Addr) (cap : Nat) (l : List Sp.S) (s : Sp.S) (w : World) (hl : l.length ≤ 1000000) (hr : ∀ t ∈ l, 0 ≤ t.1 ∧ t.1 < 16384 ∧ 0 ≤ t.2 ∧ t.2 < 16384) (hS : Spans w a cap l) :
    Calls Tryd.prog 30 #[.slice a l.length cap, .agg #[.int .i64 s.1, .int .i64 s.2]] w fun e w' => e = .returned (.bool (Rs.foll l s)) ∧ Below w.heap.size w w' := by
  obtain ⟨_, _, _, h3⟩ := hS
  by_cases h0 : l = []
  · subst h0
    exact (follows_nil a cap s w).mono fun _ _ ⟨he, hw⟩ => ⟨by rw [he]; rfl, hw⟩
  · rcases h3 with h | ⟨b, off, rfl, hb, hc⟩
    · exact absurd h h0
    · refine (follows_some b off cap l s w (List.length_pos_iff.2 h0) hl hb hr hc).mono fun _ _ ⟨he, hw⟩ => ⟨?_, hw⟩
      rw [he]
      unfold Rs.foll
      have : l.isEmpty = false := by cases l <;> simp_all
      rw [this, Bool.false_or]

end Go.Proofs.YtlbmkgnfbkimaaaDoor
