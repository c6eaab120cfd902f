/- The contracts of the statements' own awake, great and letters. -/
import Derived.Test.YtjfjlbgbdjcecaaLsRem
import Derived.Test.YtjfjlbgbdjcecaaLsSub
import Derived.Test.YtjfjlbgbdjcecaaLsOpen
import Derived.BigQuiet
import Derived.LoopTactic
namespace Go.Proofs.Ytjfjlbgbdjcecaa
open Go.RowKit Go.Shelf
set_option linter.unusedVariables false
set_option linter.unusedSimpArgs false

theorem conv1 (w : World) (x : Int) :
    (convert 39 9 (.slice (some ⟨w.heap.size, 0, none⟩) 1 1)).run Try.prog (w.alloc (.cells #[.int .u8 x] 5)) = .ok (.string ⟨#[UInt8.ofNat x.toNat]⟩) (w.alloc (.cells #[.int .u8 x] 5)) := by
  rw [run_convert_bytes_string _ _ _ _ _ _ _ Try.underlying39 Try.underlying5 Try.underlying9]
  have hl := run_loadCells_list (P := Try.prog) (w.alloc (.cells #[.int .u8 x] 5)) ⟨w.heap.size, 0, none⟩ ([x].map (Value.int .u8)) (fun j v hj => by
    match j, hj with
    | 0, hj =>
      simp at hj
      subst hj
      simp [Addr.add])
  simp only [List.length_map, List.length_cons, List.length_nil] at hl
  rw [run_bytesToString _ _ _ _ [x] hl]
  rfl

set_option maxRecDepth 100000 in
set_option maxHeartbeats 4000000 in
theorem awake_any (w : World) : Calls Try.prog 9 #[] w fun e W' => e = .returned (.bool true) ∧ Below w.heap.size w W' := by
  have hr := callsIn_wide.1 (rem_any none 0 [] 0 [97] w (wds_nil w) (by decide) (by decide) (by decide) (by decide))
  rw [show Ls.remN [] [97] 0 = 0 by decide, show Ls.remS [] [97] 0 = [] by decide] at hr
  have hp := fun (W : World) => push_any (some ⟨W.heap.size, 0, none⟩) 1 [[97]] true (some ⟨W.heap.size + 1, 0, none⟩) 2 [[98], [99]] ((W.alloc (.cells #[.string ⟨#[97]⟩] 9)).alloc (.cells #[.string ⟨#[98]⟩, .string ⟨#[99]⟩] 9))
    ((wds_new W [[97]] (by decide) (by decide)).later ((Below.refl _ _).alloc (Nat.le_refl _) _))
    (by have := wds_new (W.alloc (.cells #[.string ⟨#[97]⟩] 9)) [[98], [99]] (by decide) (by decide); rwa [World.size_alloc] at this) (by decide) (by decide) (by decide)
  rw [show Ls.pushS [[97]] [[98], [99]] true = [[99], [98], [97]] by decide] at hp
  have HR := Lib.hid hr
  have HP := Lib.hid hp
  clear hr hp
  go_enter Try.func9, Try.ntmps9
  go_wp2_with fail
  refine HR.out.mono ?_
  rintro e w1 ⟨u, rfl, hr⟩
  have hz1 := hr.2.size
  have HB1 := Lib.hid hr.2
  clear hr
  go_wp2_with fail
  refine (HP.out w1).mono ?_
  rintro e w2 ⟨u2, rfl, hr⟩
  obtain ⟨a2, c2, rfl, hw⟩ := hr.words (by decide)
  have HB2 := Lib.hid hr.2
  obtain ⟨b, off, rfl, hb, hc⟩ := hw.get (by decide)
  have c0 := hc 0 (by decide)
  have cc2 := hc 2 (by decide)
  have hcap := hw.1
  simp at c0 cc2
  clear hr hw hc
  go_wp2_with fail
  go_ret
  exact ⟨rfl, (HB1.out.alloc hz1 _).alloc (by simp; omega) _ |>.trans (HB2.out.mono (by simp; omega))⟩

namespace Ls
/-- more than a statement goes through. -/
def bigW (t : Bs) : Bool := decide (200 < t.length)
def greatB (ws : List Bs) : Bool := (ws.take 100).any bigW || decide (80 < ws.length)
theorem any_take_at {α : Type} {l : List α} {d : α} {f : α → Bool} {q : Nat} (h : q < l.length) (h6 : q < 100) (hf : f (l.getD q d) = true) : (l.take 100).any f = true := by
  rw [List.any_eq_true]
  refine ⟨l.getD q d, ?_, hf⟩
  rw [getD_mem_len h, List.mem_take_iff_getElem]
  exact ⟨q, by omega, rfl⟩
theorem any_take_none {α : Type} {l : List α} {d : α} {f : α → Bool} {q : Nat} (h : ∀ j, j < q → f (l.getD j d) = false) (hq : l.length ≤ q ∨ 100 ≤ q) : (l.take 100).any f = false := by
  rw [List.any_eq_false]
  intro x hx
  rw [List.mem_take_iff_getElem] at hx
  obtain ⟨j, hj, rfl⟩ := hx
  have := h j (by omega)
  rw [getD_mem_len (by omega)] at this
  simp [this]
theorem great_no {ws : List Bs} (h : greatB ws = false) : ws.length ≤ 80 ∧ ∀ t ∈ ws, t.length ≤ 200 := by
  simp only [greatB, Bool.or_eq_false_iff, decide_eq_false_iff_not] at h
  obtain ⟨h1, h2⟩ := h
  rw [List.take_of_length_le (by omega), List.any_eq_false] at h1
  refine ⟨by omega, fun t ht => ?_⟩
  have := h1 t ht
  simp only [bigW, decide_eq_true_eq] at this
  omega
end Ls

set_option maxRecDepth 100000 in
set_option maxHeartbeats 4000000 in
theorem great_any (a : Option Addr) (c : Nat) (ws : List Ls.Bs) (w : World) (hF : Wds w a c ws) :
    Calls Try.prog 8 #[.slice a ws.length c] w fun e w' => e = .returned (.bool (Ls.greatB ws)) ∧ w = w' := by
  have hn : ws.length ≤ 9223372036854775807 := Nat.le_trans hF.1 hF.2.1
  have hnI : (ws.length : Int) ≤ 9223372036854775807 := by omega
  have HF := Lib.hid hF
  clear hF
  go_enter Try.func8, Try.ntmps8
  go_wp2_with fail
  go_loop [2, 3] (fun r i => ∃ q : Nat, q ≤ ws.length ∧ q ≤ 100 ∧ r = .bool false ∧ i = .int .i64 q ∧ Hid (∀ j, j < q → Ls.bigW (ws.getD j []) = false)) (fun _ i => ws.length - (intOf i).toNat)
  case atStart => exact ⟨0, Nat.zero_le _, Nat.zero_le _, rfl, rfl, Lib.hid fun j h => by omega⟩
  case round =>
    obtain ⟨q, hq, hq6, rfl, rfl, HJ⟩ := hrel
    by_cases hlt : q < ws.length
    · have d1 : decide (q < ws.length) = true := decide_eq_true hlt
      have d1i : decide ((q : Int) < (ws.length : Int)) = true := decide_eq_true (by omega)
      by_cases h6 : q < 100
      · have d2 : (q : Int) < 100 := by omega
        obtain ⟨b, off, rfl, hb, hc⟩ := HF.out.get (by omega)
        have y0 := hc q hlt
        have k0 : (0 : Int) ≤ (q : Int) := by omega
        have k1 : (q : Int) < (ws.length : Int) := by omega
        have hsl := HF.out.len (k := q)
        by_cases hbig : (ws.getD q []).length ≤ 200
        · have HX := Lib.hid (show ∀ j, j < q + 1 → Ls.bigW (ws.getD j []) = false from fun j hj => by
            rcases Nat.lt_or_ge j q with h | h
            · exact HJ.out j h
            · obtain rfl : j = q := by omega
              unfold Ls.bigW
              rw [decide_eq_false]
              omega)
          have d3 : ¬ (200 : Int) < ((ws.getD q []).length : Int) := by omega
          clear hc hbig
          generalize ws.getD q [] = x at *
          go_wp2_with fail
          go_round
          case rel => exact ⟨q + 1, by omega, by omega, rfl, by go_num, HX⟩
          case measure => simp [intOf]; omega
        · have HG := Lib.hid (show Ls.greatB ws = true by
            unfold Ls.greatB
            rw [Ls.any_take_at (d := []) hlt h6 (by unfold Ls.bigW; rw [decide_eq_true]; omega), Bool.true_or])
          have d3 : (200 : Int) < ((ws.getD q []).length : Int) := by omega
          clear hc hbig
          generalize ws.getD q [] = x at *
          go_wp2_with fail
          go_ret
          exact ⟨by rw [HG.out]; rfl, rfl⟩
      · obtain rfl : q = 100 := by omega
        have HG := Lib.hid (show Ls.greatB ws = true by
          unfold Ls.greatB
          rw [decide_eq_true (by omega), Bool.or_true])
        have d3 : (80 : Int) < (ws.length : Int) := by omega
        clear h6
        go_wp2_with fail
        go_ret
        exact ⟨by rw [HG.out]; rfl, rfl⟩
    · obtain rfl : q = ws.length := by omega
      have HG := Lib.hid (show Ls.greatB ws = decide (80 < ws.length) by
        unfold Ls.greatB
        rw [Ls.any_take_none (d := []) HJ.out (.inl (Nat.le_refl _)), Bool.false_or])
      by_cases h8 : 80 < ws.length
      · rw [decide_eq_true h8] at HG
        have d3 : (80 : Int) < (ws.length : Int) := by omega
        clear h8
        go_wp2_with fail
        go_ret
        exact ⟨by rw [HG.out]; rfl, rfl⟩
      · rw [decide_eq_false h8] at HG
        have d3 : ¬ (80 : Int) < (ws.length : Int) := by omega
        clear h8
        go_wp2_with fail
        go_ret
        exact ⟨by rw [HG.out]; rfl, rfl⟩
end Go.Proofs.Ytjfjlbgbdjcecaa
