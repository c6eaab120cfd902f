/- strings.ContainsAny of a line's ends, at all bytes. -/
import Derived.Test.YtcjbfgkmpoebgaaDoorRpIxOne
import Derived.Laws.RangeAny
import Derived.BigQuiet
import Derived.WalkMore
namespace Go.Proofs.YtcjbfgkmpoebgaaDoor
namespace Rp
theorem dec_shift (s : ByteArray) (pos : Nat) : Go.Utf8.decode s pos = Go.Utf8.decode ⟨(s.data.toList.drop pos).toArray⟩ 0 := by
  have hz : (⟨(s.data.toList.drop pos).toArray⟩ : ByteArray).size = s.size - pos := by
    show (s.data.toList.drop pos).toArray.size = s.data.size - pos
    simp
  have hg : ∀ k, (⟨(s.data.toList.drop pos).toArray⟩ : ByteArray).get! (0 + k) = s.get! (pos + k) := fun k => by
    show ((s.data.toList.drop pos).toArray)[0 + k]! = s.data[pos + k]!
    simp only [getElem!_def, Nat.zero_add]
    simp
  have hd : ∀ k, decide (0 + k < (⟨(s.data.toList.drop pos).toArray⟩ : ByteArray).size) = decide (pos + k < s.size) := fun k => by
    rw [hz]
    by_cases h : pos + k < s.size
    · rw [decide_eq_true h, decide_eq_true (by omega)]
    · rw [decide_eq_false h, decide_eq_false (by omega)]
  unfold Go.Utf8.decode
  simp only [hg, hd]

/-- what the decoder tells of a place whose byte is from 128 on. -/
theorem decode_at (s : ByteArray) (pos : Nat) (h : pos < s.size) (hb : 128 ≤ (s.get! pos).toNat) : Far ⟨(s.data.toList.drop pos).toArray⟩ (Go.Utf8.decode s pos).1 (Go.Utf8.decode s pos).2 := by
  have hz : (⟨(s.data.toList.drop pos).toArray⟩ : ByteArray).size = s.size - pos := by
    show (s.data.toList.drop pos).toArray.size = s.data.size - pos
    simp
  have h0 : (⟨(s.data.toList.drop pos).toArray⟩ : ByteArray).get! 0 = s.get! pos := by
    show ((s.data.toList.drop pos).toArray)[0]! = s.data[pos]!
    simp only [getElem!_def]
    simp
  have := decode_far ⟨(s.data.toList.drop pos).toArray⟩ (by omega) (by rw [h0]; exact hb)
  unfold Go.Lib.decodeGo at this
  rw [if_neg (by omega), ← dec_shift] at this
  exact this

theorem encode_last {R : Int} (hz : (Go.Utf8.encode R).size = 2) : 128 ≤ ((Go.Utf8.encode R).get! 1).toNat := by
  revert hz
  unfold Go.Utf8.encode
  generalize (if Go.Utf8.valid R = true then R.toNat else Go.Utf8.runeError) = c
  dsimp only
  split
  · intro hz; exact absurd hz (by show ¬ (1 : Nat) = 2; decide)
  · split
    · intro _; exact byte_of (by omega) (by omega)
    · split
      · intro hz; exact absurd hz (by show ¬ (3 : Nat) = 2; decide)
      · intro hz; exact absurd hz (by show ¬ (4 : Nat) = 2; decide)
end Rp
end Go.Proofs.YtcjbfgkmpoebgaaDoor
namespace Go.Proofs.YtcjbfgkmpoebgaaDoor
open Go.RowKit Go.Shelf
attribute [local go_sem] Oper.semAt_some
set_option linter.unusedVariables false
set_option linter.unusedSimpArgs false

theorem below_drew2 {B : Nat} {a w : World} (h : Below B a w) (n : Nat) : Below B a (w.drewN n) := ⟨h.os, h.tape, h.output, h.size, h.block⟩

set_option maxRecDepth 100000 in
set_option maxHeartbeats 8000000 in
/-- strings.IndexRune of a line's ends at a rune from 128 on. -/
theorem ir_far (R : Int) (r0 : 128 ≤ R) (r1 : R ≤ 1114111) (hen : R ≠ 65533 → 2 ≤ (Go.Utf8.encode R).size ∧ (Go.Utf8.encode R).size ≤ 4) (w : World) :
    Calls Tryd.prog 56 #[.string ⟨#[13, 10]⟩, .int .i32 R] w fun e W' => e = .returned (.int .i64 (-1)) ∧ Below w.heap.size w W' := by
  by_cases h655 : R = 65533
  · subst h655
    clear hen
    go_enter Tryd.func56, Tryd.ntmps56
    go_wp2
    go_loopg [4, 6] 2 (fun g r _ wx => ∃ p : Nat, p + g = 2 ∧ r = .int .i64 0 ∧ wx = w.iter ⟨#[13, 10]⟩ p)
    case atStart => exact ⟨0, rfl, rfl, rfl⟩
    case round =>
      obtain ⟨p, hpg, rfl, rfl⟩ := hrel
      match p, hpg with
      | 0, hpg =>
        have hnx : ∀ ty, (Instr.next (.pointer (some ⟨w.heap.size, 0, none⟩)) true ty).run Tryd.prog (w.iter ⟨#[13, 10]⟩ 0) = .ok (.tuple #[.bool true, .int .i64 0, .int .i32 13]) (w.iter ⟨#[13, 10]⟩ 1) := fun ty => run_next_ascii (P := Tryd.prog) w ⟨#[13, 10]⟩ 0 ty (by decide) (by decide)
        go_wp2
        go_roundg 1
        case measure => omega
        case rel => exact ⟨1, rfl, rfl, rfl⟩
      | 1, hpg =>
        have hnx : ∀ ty, (Instr.next (.pointer (some ⟨w.heap.size, 0, none⟩)) true ty).run Tryd.prog (w.iter ⟨#[13, 10]⟩ 1) = .ok (.tuple #[.bool true, .int .i64 1, .int .i32 10]) (w.iter ⟨#[13, 10]⟩ 2) := fun ty => run_next_ascii (P := Tryd.prog) w ⟨#[13, 10]⟩ 1 ty (by decide) (by decide)
        go_wp2
        go_roundg 0
        case measure => omega
        case rel => exact ⟨2, rfl, rfl, rfl⟩
      | 2, hpg =>
        have hnx := fun ty => run_next_end (P := Tryd.prog) w ⟨#[13, 10]⟩ 2 ty (by decide)
        go_wp2
        go_ret
        exact ⟨rfl, (Below.refl _ w).alloc (Nat.le_refl _) _⟩
      | p + 3, hpg => omega
  · obtain ⟨z2, z4⟩ := hen h655
    clear hen
    have hl2 := fun h => Rp.encode_last (R := R) h
    obtain ⟨E, hE⟩ : ∃ E, Go.Utf8.encode R = E := ⟨_, rfl⟩
    rw [hE] at z2 z4 hl2
    have hcv : ∀ w, (convert 21 9 (.int .i32 R)).run Tryd.prog w = .ok (.string E) w := fun w => by rw [run_convert_int_string (P := Tryd.prog) w 21 9 .i32 R (by kernel_rfl) (by kernel_rfl), hE]
    have hr655 : (R == 65533) = false := by rw [beq_eq_false_iff_ne]; exact h655
    by_cases h2 : E.size = 2
    · have hz2I : (E.size : Int) = 2 := by omega
      obtain ⟨c, hc⟩ : ∃ c, E.get! 1 = c := ⟨_, rfl⟩
      have hl3 := hl2 h2
      rw [hc] at hl3
      clear hl2 z2 z4
      have hw2 : IntKind.i64.wrap 2 = 2 := by decide
      have hsl : ∀ w, (Instr.slice 9 (.string ⟨#[13, 10]⟩) (some (.int .i64 2)) none none).run Tryd.prog w = .ok (.string ByteArray.empty) w := fun w => by
        rw [run_slice_string_from_if (P := Tryd.prog) w 9 ⟨#[13, 10]⟩ .i64 2 (by kernel_rfl), if_pos (by decide)]
        rfl
      have HBS : Hid (∀ (y : Int) (w : World), Calls Tryd.prog 77 #[.string ByteArray.empty, .int .u8 y] w fun e w' => e = .returned (.int .i64 (-1)) ∧ w' = w) := Lib.hid (fun y w => Tryd.strings_IndexByte ByteArray.empty y w)
      have hE1 : 1 < E.size := by omega
      have hbe : ((((⟨#[13, 10]⟩ : ByteArray)[1]'(by decide)).toNat : Int) != ((E[1]'hE1).toNat : Int)) = true := by
        rw [bne_iff_ne]
        have e : E.get! 1 = E[1]'hE1 := by
          show E.data[1]! = E.data[1]'hE1
          simp only [getElem!_def]
          rw [Array.getElem?_eq_getElem hE1]
        rw [hc] at e
        rw [← e]
        show (10 : Int) ≠ _
        omega
      clear hl3 hc
      go_enter Tryd.func56, Tryd.ntmps56
      go_wp2
      any_goals (go_ret; exact ⟨rfl, Below.refl _ _⟩)
      all_goals
        go_step3
        go_wp2
        go_loopg [4, 9, 10] 1 (fun g r i fa wx => g = 1 ∧ r = .int .i64 0 ∧ i = .int .i64 1 ∧ fa = .int .i64 0 ∧ wx = w)
        case atStart => exact ⟨rfl, rfl, by go_num, rfl, rfl⟩
        case round =>
          obtain ⟨rfl, rfl, rfl, rfl, rfl⟩ := hrel
          go_wp2
          go_step3
          go_wp2
          go_quiet (fail)
          go_wp2
          go_quiet (exact (HBS.out _ _).mono (fun _ _ h => ⟨h.1, _, h.2⟩))
          go_wp2
          all_goals (rw [Exit.noGoto_ret]; go_wp2; (try rw [Exit.noGoto_ret]); go_ret; exact ⟨rfl, below_drew2 (Below.refl _ _) _⟩)
    · have hz3I : (3 : Int) ≤ (E.size : Int) := by omega
      have hz4I : (E.size : Int) ≤ 4 := by omega
      clear hl2 z2 z4 h2
      go_enter Tryd.func56, Tryd.ntmps56
      go_wp2
      any_goals (go_ret; exact ⟨rfl, Below.refl _ _⟩)
      all_goals
        go_step3
        go_wp2
        go_loopg [4, 9, 10] 1 (fun g r i fa wx => r = .int .i64 0 ∧ i = .int .i64 (E.size - 1) ∧ wx = w)
        case atStart => exact ⟨rfl, by go_num, rfl⟩
        case round =>
          obtain ⟨rfl, rfl, rfl⟩ := hrel
          go_wp2
          all_goals (try rw [Exit.noGoto_ret]; go_ret; exact ⟨rfl, Below.refl _ _⟩)
end Go.Proofs.YtcjbfgkmpoebgaaDoor
