/- bytes.IndexAny at one byte, and at more than 8. -/
import Derived.Test.YtcjbfgkmpoebgaaDoorRpIx
namespace Go.Proofs.YtcjbfgkmpoebgaaDoor
open Go.RowKit Go.Shelf
attribute [local go_sem] Oper.semAt_some
set_option linter.unusedVariables false
set_option linter.unusedSimpArgs false

set_option maxRecDepth 100000 in
set_option maxHeartbeats 8000000 in
theorem ix_one (t : List UInt8) (h1 : t.length = 1) (S : Nat → Prop) (w : World) (a : Option Addr) (cap : Nat) (hb : Bt S w a cap t) :
    Calls Tryd.prog 49 #[.slice a t.length cap, .string ⟨#[13, 10]⟩] w fun e W' => e = .returned (.int .i64 (ixV t)) ∧ Below w.heap.size w W' := by
  obtain ⟨c, rfl⟩ : ∃ c, t = [c] := by
    match t, h1 with
    | [c], _ => exact ⟨c, rfl⟩
  obtain ⟨b, off, rfl, hSb, hbl, hcell⟩ : ∃ b off, a = some ⟨b, off, none⟩ ∧ S b ∧ b < w.heap.size ∧ ∀ k, k < [c].length → w.cell? ⟨b, off + k, none⟩ = some (.int .u8 (([c].getD k 0).toNat : Int)) := hb.2.2.resolve_left (by simp)
  have hc0 := hcell 0 (by simp)
  obtain ⟨y, hy⟩ : ∃ y, (c.toNat : Int) = y := ⟨_, rfl⟩
  have hc1 : w.cell? ⟨b, off, none⟩ = some (.int .u8 y) := by rw [← hy]; exact hc0
  have hyb := UInt8.toNat_lt c
  have hy0 : 0 ≤ y := by omega
  have hy1 : y ≤ 255 := by omega
  have HIB := Lib.hid (ib_call c y hy)
  have HH := Lib.hid (fun (h : c = 13 ∨ c = 10) => ix_hit (t := [c]) (i := 0) (fun j hj => by omega) (by simp) h)
  have HA := Lib.hid (fun (h : c ≠ 13 ∧ c ≠ 10) => ix_all (t := [c]) (fun j hj => by
    obtain rfl : j = 0 := (by simpa using hj)
    exact h))
  have HY : Hid (¬ y < 128 → c ≠ 13 ∧ c ≠ 10) := Lib.hid (fun h => by
    constructor <;> intro e <;> rw [e] at hy <;> have : y ≤ 13 := (by rw [← hy]; decide) <;> omega)
  clear hcell hc0 hb hy h1
  show Calls _ _ #[.slice _ 1 cap, _] _ _
  by_cases h128 : y < 128
  · by_cases h13 : c = 13
    · have HR := Lib.hid (HH.out (.inl h13))
      have hib := HIB.out
      rw [if_pos h13] at hib
      clear h13
      go_enter Tryd.func49, Tryd.ntmps49
      go_wp2
      go_ret
      exact ⟨by rw [HR.out]; rfl, Below.refl _ _⟩
    · by_cases h10 : c = 10
      · have HR := Lib.hid (HH.out (.inr h10))
        have hib := HIB.out
        rw [if_neg h13, if_pos h10] at hib
        clear h13 h10
        go_enter Tryd.func49, Tryd.ntmps49
        go_wp2
        go_ret
        exact ⟨by rw [HR.out]; rfl, Below.refl _ _⟩
      · have HR := Lib.hid (HA.out ⟨h13, h10⟩)
        have hib := HIB.out
        rw [if_neg h13, if_neg h10] at hib
        clear h13 h10
        go_enter Tryd.func49, Tryd.ntmps49
        go_wp2
        go_ret
        exact ⟨by rw [HR.out]; rfl, Below.refl _ _⟩
  · have HR := Lib.hid (HA.out (HY.out h128))
    go_enter Tryd.func49, Tryd.ntmps49
    go_wp2
    go_loopg [4, 5] 2 (fun g r _ wx => ∃ p : Nat, p + g = 2 ∧ r = .int .i64 0 ∧ wx = w.iter ⟨#[13, 10]⟩ p)
    case atStart => exact ⟨0, rfl, rfl, rfl⟩
    case round =>
      obtain ⟨p, hpg, rfl, rfl⟩ := hrel
      match p, hpg with
      | 0, hpg =>
        have hnx : ∀ ty, (Instr.next (.pointer (some ⟨w.heap.size, 0, none⟩)) true ty).run Tryd.prog (w.iter ⟨#[13, 10]⟩ 0) = .ok (.tuple #[.bool true, .int .i64 0, .int .i32 13]) (w.iter ⟨#[13, 10]⟩ 1) := fun ty => run_next_ascii (P := Tryd.prog) w ⟨#[13, 10]⟩ 0 ty (by decide) (by decide)
        go_wp2
        go_roundg 1
        case measure => omega
        case rel => exact ⟨1, rfl, rfl, rfl⟩
      | 1, hpg =>
        have hnx : ∀ ty, (Instr.next (.pointer (some ⟨w.heap.size, 0, none⟩)) true ty).run Tryd.prog (w.iter ⟨#[13, 10]⟩ 1) = .ok (.tuple #[.bool true, .int .i64 1, .int .i32 10]) (w.iter ⟨#[13, 10]⟩ 2) := fun ty => run_next_ascii (P := Tryd.prog) w ⟨#[13, 10]⟩ 1 ty (by decide) (by decide)
        go_wp2
        go_roundg 0
        case measure => omega
        case rel => exact ⟨2, rfl, rfl, rfl⟩
      | 2, hpg =>
        have hnx := fun ty => run_next_end (P := Tryd.prog) w ⟨#[13, 10]⟩ 2 ty (by decide)
        go_wp2
        go_ret
        exact ⟨by rw [HR.out]; rfl, (Below.refl _ w).alloc (Nat.le_refl _) _⟩
      | p + 3, hpg => omega

set_option maxRecDepth 1000000 in
set_option maxHeartbeats 8000000 in
theorem ix_long (t : List UInt8) (h8 : 8 < t.length) (hl : t.length ≤ 1000000) (S : Nat → Prop) (w : World) (a : Option Addr) (cap : Nat) (hb : Bt S w a cap t) :
    Calls Tryd.prog 49 #[.slice a t.length cap, .string ⟨#[13, 10]⟩] w fun e W' => e = .returned (.int .i64 (ixV t)) ∧ Below w.heap.size w W' := by
  obtain ⟨b, off, rfl, hSb, hbl, hcell⟩ : ∃ b off, a = some ⟨b, off, none⟩ ∧ S b ∧ b < w.heap.size ∧ ∀ k, k < t.length → w.cell? ⟨b, off + k, none⟩ = some (.int .u8 ((t.getD k 0).toNat : Int)) := hb.2.2.resolve_left (by intro h; subst h; simp at h8)
  have hz := zero_of_info (P := Tryd.prog) (t := 97) (v := .agg (Array.replicate 256 (.bool false))) (n := 256) (by kernel_rfl)
  obtain ⟨hv98, hi98⟩ := hz
  have hM : Calls Tryd.prog 64 #[.string ⟨#[13, 10]⟩] w fun e w' => e = .returned (.tuple #[.agg (Lib.setCells [13, 10]), .bool true]) ∧ w' = w.alloc (.cells (Lib.setCells [13, 10]) 97) := Any.bytes_makeASCIISet Tryd.makeSetL hv98 hi98 ⟨#[13, 10]⟩ w (by decide) (fun j x hj => by
    match j, hj with
    | 0, hj => simp at hj; subst hj; decide
    | 1, hj => simp at hj; subst hj; decide)
  have hsc : (storeCells ⟨w.heap.size + 1, 0, none⟩ (Lib.setCells [13, 10]).toList 0).run Tryd.prog ((w.alloc (.cells (Lib.setCells [13, 10]) 97)).alloc (.cells (Array.replicate 256 (.bool false)) 97)) = .ok () ((w.alloc (.cells (Lib.setCells [13, 10]) 97)).alloc (.cells (Lib.setCells [13, 10]) 97)) := by
    have := run_storeCells_new (P := Tryd.prog) (w.alloc (.cells (Lib.setCells [13, 10]) 97)) 97 (Array.replicate 256 (.bool false)) (Lib.setCells [13, 10]) (by rw [Lib.setCells_size]; exact hi98) (by rw [Lib.setCells_size, Array.size_replicate]) (Lib.setCells_one _)
    simpa using this
  have hsz := Lib.setCells_size [13, 10]
  have hcellAt : ∀ x : UInt8, ((w.alloc (.cells (Lib.setCells [13, 10]) 97)).alloc (.cells (Lib.setCells [13, 10]) 97)).cell? ⟨w.heap.size + 1, x.toNat, none⟩ = some (.bool ([13, 10].contains x)) := fun x => by
    rw [World.cell?_alloc_at _ _ _ _ (by simp), Lib.setCells_at]
  have HCA := Lib.hid hcellAt
  have HCL := Lib.hid hcell
  have h8I : (8 : Int) < (t.length : Int) := by omega
  have hlI : (t.length : Int) ≤ 1000000 := by omega
  have h1I : ((t.length : Int) == 1) = false := by rw [beq_eq_false_iff_ne]; omega
  have HM := Lib.hid hM
  have HSC := Lib.hid hsc
  clear hcellAt hcell hM
  go_enter Tryd.func49, Tryd.ntmps49
  go_wp2_with (first
    | (go_at_call 64; refine HM.out.mono ?_; rintro e w' ⟨rfl, hw⟩; rw [hw])
    | go_in)
  obtain ⟨W2, hW2⟩ : ∃ W2, (w.alloc (.cells (Lib.setCells [13, 10]) 97)).alloc (.cells (Lib.setCells [13, 10]) 97) = W2 := ⟨_, rfl⟩
  have HB2 : Hid (Below w.heap.size w W2) := Lib.hid (by rw [← hW2]; exact ((Below.refl _ w).alloc (Nat.le_refl _) _).alloc (by simp) _)
  have HCA2 : Hid (∀ x : UInt8, W2.cell? ⟨w.heap.size + 1, x.toNat, none⟩ = some (.bool ([13, 10].contains x))) := Lib.hid (by rw [← hW2]; exact HCA.out)
  rw [hW2]
  clear hW2 hw hsc HCA
  go_loopg [4, 9, 10, 62] t.length (fun g r _ _ i wx => ∃ q : Nat, q + g = t.length ∧ r = .int .i64 0 ∧ i = .int .i64 (q : Int) ∧ wx = W2 ∧ Hid (∀ j, j < q → t.getD j 0 ≠ 13 ∧ t.getD j 0 ≠ 10))
  case atStart => exact ⟨0, by omega, rfl, rfl, rfl, Lib.hid (fun j h => by omega)⟩
  case round =>
    obtain ⟨q, hqg, rfl, rfl, rfl, HP⟩ := hrel
    cases gk with
    | zero =>
      obtain rfl : q = t.length := by omega
      have HR : Hid (ixV t = -1) := Lib.hid (ix_all HP.out)
      clear hqg
      go_wp2
      go_ret
      exact ⟨by rw [HR.out]; rfl, HB2.out⟩
    | succ g =>
      have hlt : q < t.length := by omega
      obtain ⟨c, hc⟩ : ∃ c, t.getD q 0 = c := ⟨_, rfl⟩
      have hcq := HB2.out.cell (p := ⟨b, off + q, none⟩) hbl
      rw [HCL.out q hlt, hc] at hcq
      have hset := HCA2.out c
      have hyb := UInt8.toNat_lt c
      have hy1 : (c.toNat : Int) < 256 := by omega
      have k0 : (0 : Int) ≤ (q : Int) := by omega
      have k1 : (q : Int) < (t.length : Int) := by omega
      have HC := Lib.hid hc
      clear hc
      by_cases hin : c = 13 ∨ c = 10
      · have HR : Hid (ixV t = q) := Lib.hid (ix_hit HP.out hlt (by rw [HC.out]; exact hin))
        have hcon : [13, 10].contains c = true := by rcases hin with rfl | rfl <;> rfl
        rw [hcon] at hset
        have HCC := Lib.hid (Any.bytes_asciiSet_contains Tryd.containsL (w.heap.size + 1) c true wr hset)
        clear hset hcon hin
        go_wp2_with (go_at_call 65; refine HCC.out.mono ?_; rintro e w' ⟨rfl, rfl⟩)
        go_ret
        exact ⟨by rw [HR.out]; rfl, HB2.out⟩
      · have h13 : c ≠ 13 := fun h => hin (.inl h)
        have h10 : c ≠ 10 := fun h => hin (.inr h)
        have hcon : [13, 10].contains c = false := by simp [h13, h10]
        rw [hcon] at hset
        have HCC := Lib.hid (Any.bytes_asciiSet_contains Tryd.containsL (w.heap.size + 1) c false wr hset)
        have HP2 : Hid (∀ j, j < q + 1 → t.getD j 0 ≠ 13 ∧ t.getD j 0 ≠ 10) := Lib.hid (fun j hj => by
          rcases Nat.lt_or_ge j q with h | h
          · exact HP.out j h
          · obtain rfl : j = q := by omega
            rw [HC.out]; exact ⟨h13, h10⟩)
        clear hset hcon hin h13 h10
        go_wp2_with (go_at_call 65; refine HCC.out.mono ?_; rintro e w' ⟨rfl, rfl⟩)
        go_roundg g
        case measure => omega
        case rel => exact ⟨q + 1, by omega, rfl, by go_num, rfl, HP2⟩

/-- bytes.IndexAny's contract, at all bytes. -/
theorem ia_any (t : List UInt8) (hl : t.length ≤ 1000000) : IA t := by
  intro S W a cap hb henv
  show Calls _ _ _ _ fun e W' => e = .returned (.int .i64 (ixV t)) ∧ Below W.heap.size W W'
  by_cases h8 : 8 < t.length
  · exact ix_long t h8 hl S W a cap hb
  · by_cases h1 : t.length = 1
    · exact ix_one t h1 S W a cap hb
    · exact ix_short t h1 (by omega) S W a cap hb henv
end Go.Proofs.YtcjbfgkmpoebgaaDoor
