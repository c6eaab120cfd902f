/- The contracts of the reference's functions on lists of spans. What is told of a []Claim in memory; the contract of claims.continues. -/
import Derived.Test.YtahmddopbmjepaaDoorProg
import Derived.Test.YtahmddopbmjepaaDoorRC13
import Derived.WalkKit
import Derived.WalkLawsBesides
import Derived.WalkSpells
import Derived.WalkMore
import Derived.Lib.Hide
import Derived.Outline
import Derived.Below
import Derived.Deep.Cut
import Derived.Deep.CutRange
import Derived.Deep.QuietTactic
import Derived.BigQuiet
import Derived.Laws.StructEq
import Derived.Test.YtahmddopbmjepaaDoorRC02
import Derived.IntWalk
namespace Go.Proofs.YtahmddopbmjepaaDoor
open Go.RowKit

/-- What is told of a slice of spans: so many pairs of cells hold these spans; each number fits an int. -/
def Spans (w : World) (a : Option Addr) (cap : Nat) (l : List Sp.S) : Prop :=
  l.length ≤ cap ∧ l.length ≤ 9223372036854775807 ∧ (∀ s ∈ l, -9223372036854775808 ≤ s.1 ∧ s.1 ≤ 9223372036854775807 ∧ -9223372036854775808 ≤ s.2 ∧ s.2 ≤ 9223372036854775807) ∧
  (l = [] ∨ ∃ b off, a = some ⟨b, off, none⟩ ∧ b < w.heap.size ∧ ∀ k, k < l.length → w.cell? ⟨b, off + k * 2, none⟩ = some (.int .i64 (l.getD k (0, 0)).1) ∧ w.cell? ⟨b, off + k * 2 + 1, none⟩ = some (.int .i64 (l.getD k (0, 0)).2))

theorem Spans.later {w w' : World} {a : Option Addr} {cap : Nat} {l : List Sp.S} (h : Spans w a cap l) (hb : Below w.heap.size w w') : Spans w' a cap l := by
  obtain ⟨h0, h1, h2, h3⟩ := h
  refine ⟨h0, h1, h2, ?_⟩
  rcases h3 with h3 | ⟨b, off, ha, hlt, hc⟩
  · exact .inl h3
  · exact .inr ⟨b, off, ha, Nat.lt_of_lt_of_le hlt hb.size, fun k hk => by
      rw [hb.cell (p := ⟨b, off + k * 2, none⟩) hlt, hb.cell (p := ⟨b, off + k * 2 + 1, none⟩) hlt]; exact hc k hk⟩

set_option maxHeartbeats 1000000 in
theorem refHas_some (b off cap : Nat) (l : List Sp.S) (n : Int) (w : World) (hl : l.length ≤ 9223372036854775807) (hc : ∀ k, k < l.length → w.cell? ⟨b, off + k * 2, none⟩ = some (.int .i64 (l.getD k (0, 0)).1) ∧ w.cell? ⟨b, off + k * 2 + 1, none⟩ = some (.int .i64 (l.getD k (0, 0)).2)) (h0 : 0 ≤ n) (h1 : n < 16384) :
    Calls Tryd.prog 43 #[.slice (some ⟨b, off, none⟩) l.length cap, .int .i64 n] w fun e w' => e = .returned (.bool (Sp.hasB l n)) ∧ w = w' := by
  have HC := Lib.hid hc
  clear hc
  go_enter Tryd.func43, Tryd.ntmps43
  go_wp2
  go_loop [4, 5] (fun r i => ∃ k : Nat, k ≤ l.length ∧ r = .bool false ∧ i = .int .i64 k ∧ Hid (Sp.hasB (l.take k) n = false)) (fun _ i => l.length - (intOf i).toNat)
  case atStart => exact ⟨0, Nat.zero_le _, rfl, rfl, Lib.hid (by simp [Sp.hasB])⟩
  case round =>
    obtain ⟨k, hk, rfl, rfl, HK⟩ := hrel
    by_cases hlt : k < l.length
    · obtain ⟨c1, c2⟩ := HC.out k hlt
      generalize hs : l.getD k (0, 0) = s at c1 c2
      obtain ⟨x, y⟩ := s
      have HS := Lib.hid hs
      clear hs
      simp only at c1 c2
      go_wp2
      · have h2 : x ≤ n := by assumption
        have h3 : n ≤ y := by assumption
        have hv : Sp.hasB l n = true := Sp.hasB_of hlt (by rw [HS.out]; simp [Sp.inB]; omega)
        go_ret
        exact ⟨by rw [hv]; rfl, rfl⟩
      · have h3 : y < n := by assumption
        have hv : Sp.hasB (l.take (k + 1)) n = false := by
          rw [Sp.hasB_take_succ hlt, HK.out, HS.out]; simp [Sp.inB]; omega
        go_round
        case rel => exact ⟨k + 1, by omega, rfl, by go_num, Lib.hid hv⟩
        case measure => simp [intOf]; omega
      · have h3 : ¬ x ≤ n := by assumption
        have hv : Sp.hasB (l.take (k + 1)) n = false := by
          rw [Sp.hasB_take_succ hlt, HK.out, HS.out]; simp [Sp.inB]; omega
        go_round
        case rel => exact ⟨k + 1, by omega, rfl, by go_num, Lib.hid hv⟩
        case measure => simp [intOf]; omega
    · obtain rfl : k = l.length := by omega
      have hv : Sp.hasB l n = false := by
        have := HK.out
        rw [List.take_length] at this
        exact this
      go_wp2
      go_ret
      exact ⟨rfl, rfl⟩

set_option maxHeartbeats 1000000 in
theorem refHas_out (a : Option Addr) (len cap : Nat) (n : Int) (w : World) (hl : len ≤ 9223372036854775807) (hn : n < 0 ∨ 16384 ≤ n) :
    Calls Tryd.prog 43 #[.slice a len cap, .int .i64 n] w fun e w' => e = .returned (.bool false) ∧ w = w' := by
  by_cases h0 : n < 0
  · clear hn
    go_enter Tryd.func43, Tryd.ntmps43
    go_wp2
    go_loop [4, 5] (fun r i => ∃ k : Nat, k ≤ len ∧ r = .bool false ∧ i = .int .i64 k) (fun _ i => len - (intOf i).toNat)
    case atStart => exact ⟨0, Nat.zero_le _, rfl, rfl⟩
    case round =>
      obtain ⟨k, hk, rfl, rfl⟩ := hrel
      by_cases hlt : k < len
      · go_wp2
        go_round
        case rel => exact ⟨k + 1, by omega, rfl, by go_num⟩
        case measure => simp [intOf]; omega
      · go_wp2
        go_ret
        exact ⟨rfl, rfl⟩
  · have h1 : ¬ n < 16384 := by omega
    clear hn
    go_enter Tryd.func43, Tryd.ntmps43
    go_wp2
    go_loop [4, 5] (fun r i => ∃ k : Nat, k ≤ len ∧ r = .bool false ∧ i = .int .i64 k) (fun _ i => len - (intOf i).toNat)
    case atStart => exact ⟨0, Nat.zero_le _, rfl, rfl⟩
    case round =>
      obtain ⟨k, hk, rfl, rfl⟩ := hrel
      by_cases hlt : k < len
      · go_wp2
        go_round
        case rel => exact ⟨k + 1, by omega, rfl, by go_num⟩
        case measure => simp [intOf]; omega
      · go_wp2
        go_ret
        exact ⟨rfl, rfl⟩

set_option maxHeartbeats 400000 in
theorem refHas_nil (a : Option Addr) (cap : Nat) (n : Int) (w : World) :
    Calls Tryd.prog 43 #[.slice a 0 cap, .int .i64 n] w fun e w' => e = .returned (.bool false) ∧ w = w' := by
  go_enter Tryd.func43, Tryd.ntmps43
  go_wp2
  go_loop [4, 5] (fun r i => r = .bool false ∧ i = .int .i64 0) (fun _ _ => 0)
  case atStart => exact ⟨rfl, rfl⟩
  case round =>
    obtain ⟨rfl, rfl⟩ := hrel
    go_wp2
    go_ret
    exact ⟨rfl, rfl⟩

theorem refHas_any (a : Option Addr) (cap : Nat) (l : List Sp.S) (n : Int) (w : World) (h : Spans w a cap l) :
    Calls Tryd.prog 43 #[.slice a l.length cap, .int .i64 n] w fun e w' => e = .returned (.bool (Sp.hasB l n)) ∧ w = w' := by
  obtain ⟨h0, h1, _, h3⟩ := h
  by_cases hn : 0 ≤ n ∧ n < 16384
  · rcases h3 with rfl | ⟨b, off, rfl, _, hc⟩
    · exact refHas_nil a cap n w
    · exact refHas_some b off cap l n w (by omega) hc hn.1 hn.2
  · have ho : n < 0 ∨ 16384 ≤ n := by omega
    rw [Sp.hasB_out ho]
    exact refHas_out a l.length cap n w (by omega) ho

theorem span_neq (x y x2 y2 : Int) (w : World) :
    (binOp .neq 58 (.agg #[.int .i64 x, .int .i64 y]) (.agg #[.int .i64 x2, .int .i64 y2])).run Tryd.prog w = .ok (.bool (!(x == x2 && y == y2))) w := by
  have u3 := Tryd.underlying3
  have a3 := Tryd.isAgg3
  have z3 := Tryd.sizeOf3
  have hS : Tryd.prog.underlying 58 = some (.struct (Tryd.prog.fieldsOf 58)) := by kernel_rfl
  have hp : Tryd.prog.stoodInHeld 58 = false := by kernel_rfl
  rw [run_neq_struct, show (10000 : Nat) = 9999 + 1 from rfl, run_equalIn_agg w 9999 58 _ _ hS hp]
  simp only [Program.fieldsOf, Tryd.underlying58]
  go_simp
  by_cases h1 : x = x2 <;> by_cases h2 : y = y2 <;> simp [h1, h2]

-- left out: refSame_some
-- left out: refSame_len
-- left out: refSame_nil
-- left out: sp_refSame
end Go.Proofs.YtahmddopbmjepaaDoor
namespace Go.Proofs.YtahmddopbmjepaaDoor
open Go.RowKit

namespace Ow
/-- each number fits an int. -/
def FitC (c : C) : Prop := -9223372036854775808 ≤ c.f ∧ c.f ≤ 9223372036854775807 ∧ -9223372036854775808 ≤ c.t ∧ c.t ≤ 9223372036854775807 ∧ -9223372036854775808 ≤ c.n ∧ c.n ≤ 9223372036854775807 ∧ -9223372036854775808 ≤ c.e ∧ c.e ≤ 9223372036854775807

theorem fit_ok {c : C} (h : okC c) : FitC c := by
  unfold okC at h; unfold FitC; omega

theorem fit_all {l : List C} (h : VL l) : ∀ c ∈ l, FitC c := fun c hc => fit_ok (h.all c hc)
end Ow

/-- the four cells of a claim. -/
def C4 (w : World) (b o : Nat) (c : Ow.C) : Prop :=
  w.cell? ⟨b, o, none⟩ = some (.int .i64 c.f) ∧ w.cell? ⟨b, o + 1, none⟩ = some (.int .i64 c.t) ∧ w.cell? ⟨b, o + 2, none⟩ = some (.int .i64 c.n) ∧ w.cell? ⟨b, o + 3, none⟩ = some (.int .i64 c.e)

/-- What is told of a slice of claims: so many times four cells hold these claims. -/
def Cls (w : World) (a : Option Addr) (cap : Nat) (l : List Ow.C) : Prop :=
  l.length ≤ cap ∧ cap ≤ 9223372036854775807 ∧ (∀ c ∈ l, Ow.FitC c) ∧
  (l = [] ∨ ∃ b off, a = some ⟨b, off, none⟩ ∧ b < w.heap.size ∧ ∀ k, k < l.length → C4 w b (off + k * 4) (l.getD k Ow.z))

theorem C4.later {w w' : World} {b o : Nat} {c : Ow.C} (h : C4 w b o c) (hlt : b < w.heap.size) (hb : Below w.heap.size w w') : C4 w' b o c := by
  obtain ⟨h1, h2, h3, h4⟩ := h
  exact ⟨(hb.cell (p := ⟨b, o, none⟩) hlt).trans h1, (hb.cell (p := ⟨b, o + 1, none⟩) hlt).trans h2, (hb.cell (p := ⟨b, o + 2, none⟩) hlt).trans h3, (hb.cell (p := ⟨b, o + 3, none⟩) hlt).trans h4⟩

theorem Cls.later {w w' : World} {a : Option Addr} {cap : Nat} {l : List Ow.C} (h : Cls w a cap l) (hb : Below w.heap.size w w') : Cls w' a cap l := by
  obtain ⟨h0, h1, h2, h3⟩ := h
  refine ⟨h0, h1, h2, ?_⟩
  rcases h3 with h3 | ⟨b, off, ha, hlt, hc⟩
  · exact .inl h3
  · exact .inr ⟨b, off, ha, Nat.lt_of_lt_of_le hlt hb.size, fun k hk => (hc k hk).later hlt hb⟩

theorem cls_nil (w : World) : Cls w none 0 [] := ⟨Nat.le_refl _, by omega, by simp, .inl rfl⟩

/-- the cells of a claim in a slice. -/
theorem Cls.cells {w : World} {a : Option Addr} {cap : Nat} {l : List Ow.C} (h : Cls w a cap l) {k : Nat} (hk : k < l.length) :
    ∃ b off, a = some ⟨b, off, none⟩ ∧ b < w.heap.size ∧ C4 w b (off + k * 4) (l.getD k Ow.z) := by
  obtain ⟨_, _, _, h3⟩ := h
  rcases h3 with rfl | ⟨b, off, ha, hb, hc⟩
  · simp at hk
  · exact ⟨b, off, ha, hb, hc k hk⟩

theorem Cls.fit {w : World} {a : Option Addr} {cap : Nat} {l : List Ow.C} (h : Cls w a cap l) {k : Nat} (hk : k < l.length) : Ow.FitC (l.getD k Ow.z) := by
  have e : l.getD k Ow.z = l[k] := by simp [List.getD, hk]
  rw [e]
  exact h.2.2.1 _ (List.getElem_mem hk)

-- left out: continues_any
end Go.Proofs.YtahmddopbmjepaaDoor
