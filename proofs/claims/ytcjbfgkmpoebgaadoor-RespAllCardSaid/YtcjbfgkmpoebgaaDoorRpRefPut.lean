/- The contracts of the reference's put and PutReply. -/
import Derived.Test.YtcjbfgkmpoebgaaDoorRpRefMayAll
import Derived.Test.YtcjbfgkmpoebgaaDoorRow8Str
import Derived.Deep.RegionHeld3
namespace Go.Proofs.YtcjbfgkmpoebgaaDoor
open Go.RowKit Go.Shelf
attribute [local go_sem] Oper.semAt_some
set_option linter.unusedVariables false
set_option linter.unusedSimpArgs false

theorem Own8.down {base base' : Nat} {W : World} {v : Value} {l : List UInt8} (h : Own8 base W v l) (hb : base' ≤ base) : Own8 base' W v l := by
  obtain ⟨g, cap, hv, g1, h⟩ := h
  exact ⟨g, cap, hv, by omega, h⟩
theorem str_add (x y : List UInt8) : (⟨x.toArray⟩ : ByteArray) ++ ⟨y.toArray⟩ = ⟨(x ++ y).toArray⟩ := by
  apply ByteArray.ext
  simp
/-- a sum of two texts, as a run. -/
theorem add_run (x y : List UInt8) (h : x.length + y.length ≤ 1000000000) (W : World) : (Op.stringOp .add ⟨x.toArray⟩ ⟨y.toArray⟩).run Tryd.prog W = .ok (.string ⟨(x ++ y).toArray⟩) W :=
  (run_string_add_sum _ _ _ (by simp [ByteArray.size]; omega)).trans (by rw [str_add])

theorem enc_own {k : Int} {s : List UInt8} {n : Int} {l : List Rp.R} (h : Rp.fitsB ⟨k, s, n, l.length⟩ = true) (hk : k ≠ 6) : Rp.enc (.mk k s n l) = Rp.own ⟨k, s, n, 0⟩ ∧ l = [] := by
  have hl : l.length = 0 := by
    unfold Rp.fitsB at h
    repeat' split at h
    all_goals first
      | (simp at h; simp [h]; done)
      | (simp at h; done)
      | (rename_i h6; exact (hk h6).elim)
  have := List.eq_nil_of_length_eq_zero hl
  subst this
  rw [Rp.enc]
  exact ⟨by simp [Rp.encL], rfl⟩

set_option maxRecDepth 100000 in
set_option maxHeartbeats 8000000 in
theorem put_flat (k : Int) (s : List UInt8) (n : Int) (l : List Rp.R) (a : Option Addr) (c : Nat) (w : World) (hf : Fit k s n l.length c) (hk6 : k ≠ 6) (hok : Rp.fitsB ⟨k, s, n, l.length⟩ = true) (hlen : s.length ≤ 1000000) :
    Calls Tryd.prog 27 #[.agg #[.int .i64 k, .string ⟨s.toArray⟩, .int .i64 n, .slice a l.length c]] w fun e W => e = .returned (.string ⟨(Rp.enc (.mk k s n l)).toArray⟩) ∧ Below w.heap.size w W := by
  obtain ⟨he, hl⟩ := enc_own hok hk6
  subst hl
  obtain ⟨f1, f2, f3, f4, f5, f6, f7, f8⟩ := hf
  have hbel : ∀ o, Below w.heap.size w (w.alloc o) := fun o => (Below.refl _ w).alloc (Nat.le_refl _) o
  have HBL := Lib.hid hbel
  have sI : (s.length : Int) ≤ 1000000 := by omega
  rw [he]
  clear hbel he f5 f6 f7 f8
  simp only [List.length_nil]
  obtain ⟨E, hE⟩ : ∃ E, Rp.own ⟨k, s, n, 0⟩ = E := ⟨_, rfl⟩
  rw [hE]
  by_cases hk1 : k = 1
  · subst hk1
    obtain ⟨T1, hT1⟩ : ∃ T1, [43] ++ s = T1 := ⟨_, rfl⟩
    have hT1l : T1.length ≤ 1000001 := by rw [← hT1]; simp; omega
    have u1 : (⟨#[43]⟩ : ByteArray) ++ ⟨s.toArray⟩ = ⟨T1.toArray⟩ := by rw [← hT1]; exact str_add [43] s
    have u2 : (⟨T1.toArray⟩ : ByteArray) ++ ⟨#[13, 10]⟩ = ⟨E.toArray⟩ := by rw [show (⟨#[13, 10]⟩ : ByteArray) = ⟨([13, 10] : List UInt8).toArray⟩ from rfl, str_add, ← hT1, ← hE]; rfl
    clear hok hT1 hE
    go_enter Tryd.func27, Tryd.ntmps27
    go_wp2
    go_ret
    exact ⟨rfl, HBL.out _⟩
  by_cases hk2 : k = 2
  · subst hk2
    obtain ⟨T1, hT1⟩ : ∃ T1, [45] ++ s = T1 := ⟨_, rfl⟩
    have hT1l : T1.length ≤ 1000001 := by rw [← hT1]; simp; omega
    have u1 : (⟨#[45]⟩ : ByteArray) ++ ⟨s.toArray⟩ = ⟨T1.toArray⟩ := by rw [← hT1]; exact str_add [45] s
    have u2 : (⟨T1.toArray⟩ : ByteArray) ++ ⟨#[13, 10]⟩ = ⟨E.toArray⟩ := by rw [show (⟨#[13, 10]⟩ : ByteArray) = ⟨([13, 10] : List UInt8).toArray⟩ from rfl, str_add, ← hT1, ← hE]; rfl
    clear hok hT1 hE
    go_enter Tryd.func27, Tryd.ntmps27
    go_wp2
    go_ret
    exact ⟨rfl, HBL.out _⟩
  by_cases hk3 : k = 3
  · subst hk3
    obtain ⟨D, hD⟩ : ∃ D, Dig.dec n = D := ⟨_, rfl⟩
    have hDl : D.length ≤ 20 := by rw [← hD]; exact Rp.dec20 f3 f4
    obtain ⟨T1, hT1⟩ : ∃ T1, [58] ++ D = T1 := ⟨_, rfl⟩
    have hT1l : T1.length ≤ 21 := by rw [← hT1]; simp; omega
    have u1 : (⟨#[58]⟩ : ByteArray) ++ ⟨D.toArray⟩ = ⟨T1.toArray⟩ := by rw [← hT1]; exact str_add [58] D
    have u2 : (⟨T1.toArray⟩ : ByteArray) ++ ⟨#[13, 10]⟩ = ⟨E.toArray⟩ := by rw [show (⟨#[13, 10]⟩ : ByteArray) = ⟨([13, 10] : List UInt8).toArray⟩ from rfl, str_add, ← hT1, ← hE, ← hD]; rfl
    have HDG := Lib.hid (fun W => digits_any n W f3 f4)
    rw [hD] at HDG
    clear hok hT1 hE hD
    go_enter Tryd.func27, Tryd.ntmps27
    go_wp2_with fail
    refine (HDG.out _).mono ?_
    rintro e w2 ⟨rfl, hb2⟩
    have HB2 := Lib.hid ((HBL.out _).trans (hb2.mono (HBL.out _).size))
    clear hb2
    go_wp2
    go_ret
    exact ⟨rfl, HB2.out⟩
  by_cases hk4 : k = 4
  · subst hk4
    obtain ⟨D, hD⟩ : ∃ D, Dig.dec (s.length : Int) = D := ⟨_, rfl⟩
    have hDl : D.length ≤ 20 := by rw [← hD]; exact Rp.dec20 (by omega) (by omega)
    have hEE : [36] ++ D ++ [13, 10] ++ s ++ [13, 10] = E := by rw [← hE, ← hD]; simp [Rp.own, Rp.crlf]
    have r1 := fun W => add_run [36] D (by simp; omega) W
    have r2 := fun W => add_run ([36] ++ D) [13, 10] (by simp; omega) W
    have r3 := fun W => add_run ([36] ++ D ++ [13, 10]) s (by simp; omega) W
    have r4 := fun W => add_run ([36] ++ D ++ [13, 10] ++ s) [13, 10] (by simp; omega) W
    rw [hEE] at r4
    generalize hA : [36] ++ D = T1 at r1 r2 r3 r4
    generalize hB : T1 ++ [13, 10] = T2 at r2 r3 r4
    generalize hC : T2 ++ s = T3 at r3 r4
    have r1' : ∀ W : World, (Op.stringOp .add ⟨#[36]⟩ ⟨D.toArray⟩).run Tryd.prog W = .ok (.string ⟨T1.toArray⟩) W := r1
    have r2' : ∀ W : World, (Op.stringOp .add ⟨T1.toArray⟩ ⟨#[13, 10]⟩).run Tryd.prog W = .ok (.string ⟨T2.toArray⟩) W := r2
    have r4' : ∀ W : World, (Op.stringOp .add ⟨T3.toArray⟩ ⟨#[13, 10]⟩).run Tryd.prog W = .ok (.string ⟨E.toArray⟩) W := r4
    have HDG := Lib.hid (fun W => digits_any (s.length : Int) W (by omega) (by omega))
    rw [hD] at HDG
    obtain ⟨w1, hw1⟩ : ∃ w1, w.alloc (.cells #[.int .i64 4, .string ⟨s.toArray⟩, .int .i64 n, .slice a 0 c] 24) = w1 := ⟨_, rfl⟩
    have hp1 := World.alloc_heap_new w (.cells #[.int .i64 4, .string ⟨s.toArray⟩, .int .i64 n, .slice a 0 c] 24)
    have hb1 := HBL.out (.cells #[.int .i64 4, .string ⟨s.toArray⟩, .int .i64 n, .slice a 0 c] 24)
    rw [hw1] at hp1 hb1
    obtain ⟨p0, p1, p2, p3⟩ := cells_four hp1
    have hz1 : w.heap.size < w1.heap.size := (Array.getElem?_eq_some_iff.1 hp1).1
    have HW1 := Lib.hid hw1
    have HB1 := Lib.hid hb1
    clear hok hE hD hEE r1 r2 r4 hw1 hb1 hp1 hA hB hC
    go_enter Tryd.func27, Tryd.ntmps27
    go_upto_region 1 with (fail)
    rw [show w.alloc (.cells #[.int .i64 4, .string ⟨s.toArray⟩, .int .i64 n, .slice a 0 c] 24) = w1 from HW1.out]
    clear HW1
    go_upto_region 10 with (fail)
    go_region_held3 (fun W' => W'.cell? ⟨w.heap.size, 1, none⟩ = some (.string ⟨s.toArray⟩))
      (first | (with_reducible exact k1) | go_keep)
      ((go_at_call 32; refine (HDG.out _).mono ?_; rintro e w5 ⟨rfl, hb5⟩; have hbw5 : Below w1.heap.size w1 w5 := ((Below.refl w1.heap.size w1).drew).trans hb5; have k1 := (hbw5.cell (p := ⟨w.heap.size, 1, none⟩) hz1).trans p1))
    have HB5 := Lib.hid (HB1.out.trans (hbw5.mono HB1.out.size))
    clear hb5 hbw5
    go_wp2
    go_ret
    exact ⟨rfl, HB5.out⟩
  by_cases hk5 : k = 5
  · subst hk5
    have u2 : (⟨#[36, 45, 49]⟩ : ByteArray) ++ ⟨#[13, 10]⟩ = ⟨E.toArray⟩ := by
      rw [← hE]
      show _ = (⟨([36] ++ Dig.dec (-1) ++ [13, 10]).toArray⟩ : ByteArray)
      rw [show Dig.dec (-1) = [45, 49] by unfold Dig.dec; rw [if_pos (by decide)]; rw [show (-(-1 : Int)).toNat = 1 from rfl, Dig.digs_small (by decide)]; rfl]
      rfl
    clear hok hE
    go_enter Tryd.func27, Tryd.ntmps27
    go_wp2
    go_ret
    exact ⟨by first | rfl | (rw [← u2]; rfl), HBL.out _⟩
  have : Rp.fitsB ⟨k, s, n, ([] : List Rp.R).length⟩ = false := by unfold Rp.fitsB; simp [hk1, hk2, hk3, hk4, hk5, hk6]
  rw [this] at hok
  cases hok
end Go.Proofs.YtcjbfgkmpoebgaaDoor
