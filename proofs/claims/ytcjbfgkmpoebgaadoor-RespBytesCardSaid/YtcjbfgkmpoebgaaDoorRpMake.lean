/- The laws' replies by numbers, as plain functions. The contract of the laws' Make. -/
import Derived.Test.YtcjbfgkmpoebgaaDoorRpWords
import Derived.Test.YtcjbfgkmpoebgaaDoorDig
import Derived.Test.YtcjbfgkmpoebgaaDoorRpArray
import Derived.Test.YtcjbfgkmpoebgaaDoorHeldL
namespace Go.Proofs.YtcjbfgkmpoebgaaDoor

namespace Rp
/-- what Make makes. -/
def mkF : Nat → List UInt8 → List UInt8 → R
  | 0, _, _ => .mk 5 [] 0 []
  | _ + 1, [], _ => .mk 5 [] 0 []
  | f + 1, b :: t, s =>
    if b.toNat % 6 = 0 then .mk 1 (69 :: Dig.dec (b.toNat : Int)) 0 []
    else if b.toNat % 6 = 1 then .mk 2 (69 :: Dig.dec (b.toNat : Int)) 0 []
    else if b.toNat % 6 = 2 then .mk 3 [] (((b.toNat : Int) - 128) * b.toNat * b.toNat * b.toNat) []
    else if b.toNat % 6 = 3 then .mk 4 (s.take (b.toNat / 6)) 0 []
    else if b.toNat % 6 = 4 then .mk 6 [] 0 ((List.range (min (b.toNat / 6 % 5) t.length)).map fun i => mkF f ((t.drop i).take (b.toNat / 30 % 4 + 1)) s)
    else .mk 5 [] 0 []
end Rp

end Go.Proofs.YtcjbfgkmpoebgaaDoor
namespace Go.Proofs.YtcjbfgkmpoebgaaDoor
open Go.RowKit Go.Shelf
attribute [local go_sem] Oper.semAt_some
set_option linter.unusedVariables false
set_option linter.unusedSimpArgs false

/-- what Make tells. -/
def MkOut (w : World) (R : Rp.R) (e : Ending) (W : World) : Prop :=
  ∃ a cap, e = .returned (rv R.k R.s R.n a R.l.length cap) ∧ Rep (fun k => w.heap.size ≤ k) W R (rv R.k R.s R.n a R.l.length cap) ∧ Below w.heap.size w W

theorem mk_store {w w1 : World} (hb : Below w.heap.size w w1) (x y z u : Value) : Below w.heap.size w (set4 w1 w.heap.size x y z u) :=
  (((hb.setCell (p := ⟨w.heap.size, 0, none⟩) (Nat.le_refl _) _).setCell (p := ⟨w.heap.size, 1, none⟩) (Nat.le_refl _) _).setCell (p := ⟨w.heap.size, 2, none⟩) (Nat.le_refl _) _).setCell (p := ⟨w.heap.size, 3, none⟩) (Nat.le_refl _) _

theorem mk_out {w w1 : World} (hb : Below w.heap.size w w1) {k n : Int} {s : List UInt8} {R : Rp.R} (hR : R = .mk k s n []) (hf : Fit k s n 0 0) :
    MkOut w R (.returned (.agg #[.int .i64 k, .string ⟨s.toArray⟩, .int .i64 n, .slice none 0 0])) (set4 w1 w.heap.size (.int .i64 k) (.string ⟨s.toArray⟩) (.int .i64 n) (.slice none 0 0)) := by
  subst hR
  exact ⟨none, 0, rfl, Rep.intro hf (.inl rfl), mk_store hb _ _ _ _⟩

theorem str_cons7 (x : UInt8) (l : List UInt8) : (⟨#[x]⟩ : ByteArray) ++ ⟨l.toArray⟩ = ⟨(x :: l).toArray⟩ := by
  apply ByteArray.ext
  simp

theorem str_take7 (s : List UInt8) {X : Int} (h : 0 ≤ X) : (⟨s.toArray⟩ : ByteArray).extract 0 (min (s.length : Int) X).toNat = ⟨(s.take X.toNat).toArray⟩ := by
  apply ByteArray.ext
  apply Array.toList_inj.1
  rw [Lib.extract_data]
  simp
  omega

theorem mkF_at {f : Nat} {b : UInt8} {t s : List UInt8} {X : Int} (hX : (b.toNat : Int) = X) :
    (X % 6 = 5 → Rp.mkF (f + 1) (b :: t) s = .mk 5 [] 0 []) ∧ (X % 6 = 0 → Rp.mkF (f + 1) (b :: t) s = .mk 1 (69 :: Dig.dec X) 0 []) ∧ (X % 6 = 1 → Rp.mkF (f + 1) (b :: t) s = .mk 2 (69 :: Dig.dec X) 0 []) ∧
    (X % 6 = 2 → Rp.mkF (f + 1) (b :: t) s = .mk 3 [] ((X - 128) * X * X * X) []) ∧ (X % 6 = 3 → Rp.mkF (f + 1) (b :: t) s = .mk 4 (s.take (X / 6).toNat) 0 []) ∧
    (X % 6 = 4 → Rp.mkF (f + 1) (b :: t) s = .mk 6 [] 0 ((List.range (min (b.toNat / 6 % 5) t.length)).map fun i => Rp.mkF f ((t.drop i).take (b.toNat / 30 % 4 + 1)) s)) := by
  subst hX
  refine ⟨fun h => ?_, fun h => ?_, fun h => ?_, fun h => ?_, fun h => ?_, fun h => ?_⟩ <;> rw [Rp.mkF]
  · rw [if_neg (by omega), if_neg (by omega), if_neg (by omega), if_neg (by omega), if_neg (by omega)]
  · rw [if_pos (by omega)]
  · rw [if_neg (by omega), if_pos (by omega)]
  · rw [if_neg (by omega), if_neg (by omega), if_pos (by omega)]
  · rw [if_neg (by omega), if_neg (by omega), if_neg (by omega), if_pos (by omega), show ((b.toNat : Int) / 6).toNat = b.toNat / 6 by omega]
  · rw [if_neg (by omega), if_neg (by omega), if_neg (by omega), if_neg (by omega), if_pos (by omega)]

theorem mk_num {X : Int} (h0 : 0 ≤ X) (h1 : X ≤ 255) : -9223372036854775808 ≤ (X - 128) * X * X * X ∧ (X - 128) * X * X * X ≤ 9223372036854775807 ∧ IntKind.i64.wrap (X - 128) = X - 128 ∧ IntKind.i64.wrap ((X - 128) * X) = (X - 128) * X ∧ IntKind.i64.wrap ((X - 128) * X * X) = (X - 128) * X * X ∧ IntKind.i64.wrap ((X - 128) * X * X * X) = (X - 128) * X * X * X := by
  have key : ∀ n : Nat, n < 256 → (-9223372036854775808 ≤ ((n : Int) - 128) * n * n * n ∧ ((n : Int) - 128) * n * n * n ≤ 9223372036854775807 ∧ IntKind.i64.wrap ((n : Int) - 128) = (n : Int) - 128 ∧ IntKind.i64.wrap (((n : Int) - 128) * n) = ((n : Int) - 128) * n ∧ IntKind.i64.wrap (((n : Int) - 128) * n * n) = ((n : Int) - 128) * n * n ∧ IntKind.i64.wrap (((n : Int) - 128) * n * n * n) = ((n : Int) - 128) * n * n * n) := by
    decide +kernel
  have := key X.toNat (by omega)
  rwa [Int.toNat_of_nonneg h0] at this

set_option maxRecDepth 100000 in
set_option maxHeartbeats 8000000 in
theorem make_flat (f : Nat) (b : UInt8) (t : List UInt8) (a : Option Addr) (cap : Nat) (s : List UInt8) (w : World) (hl : (b :: t).length ≤ 1000) (hs : s.length ≤ 1000) (hb : Bt (fun _ => True) w a cap (b :: t)) (hn : b.toNat % 6 ≠ 4) :
    Calls Tryd.prog 20 #[.slice a (b :: t).length cap, .string ⟨s.toArray⟩] w (MkOut w (Rp.mkF (f + 1) (b :: t) s)) := by
  obtain ⟨hc1, hc2, hc3⟩ := hb
  obtain ⟨bb, off, rfl, -, hlt, hc⟩ := hc3.resolve_left (by simp)
  have c0 := hc 0 (by simp)
  simp only [List.getD_cons_zero, Nat.add_zero] at c0
  clear hc hc3
  have hnl : 0 < (b :: t).length := by simp
  have hx255 : (b.toNat : Int) ≤ 255 := by have := b.toNat_lt; omega
  have hx0 : (0 : Int) ≤ (b.toNat : Int) := by omega
  have hsI : (s.length : Int) ≤ 1000 := by omega
  generalize hN : (b :: t).length = N at *
  have hNI : (0 : Int) < (N : Int) := by omega
  have hN0 : ¬ (N : Int) = 0 := by omega
  obtain ⟨w1, hw1⟩ : ∃ w1, w.alloc (.cells #[.int .i64 0, .string ⟨#[]⟩, .int .i64 0, .slice none 0 0] 24) = w1 := ⟨_, rfl⟩
  have hx1 := World.alloc_heap_new w (.cells #[.int .i64 0, .string ⟨#[]⟩, .int .i64 0, .slice none 0 0] 24)
  have hb1 := (Below.refl w.heap.size w).alloc (Nat.le_refl _) (.cells #[.int .i64 0, .string ⟨#[]⟩, .int .i64 0, .slice none 0 0] 24)
  rw [hw1] at hx1 hb1
  obtain ⟨b0, b1, b2, b3, f0, f1, f2, f3⟩ := cells_four' hx1
  have c1 := (hb1.cell (p := ⟨bb, off, none⟩) hlt).trans c0
  have HW1 := Lib.hid hw1
  have HB := Lib.hid hb1
  have HX := Lib.hid hx1
  clear hw1 hb1 hx1 c0 hN
  generalize hX : (b.toNat : Int) = X at *
  have hXn : b.toNat = X.toNat := by omega
  have hcase : X % 6 = 5 ∨ X % 6 = 0 ∨ X % 6 = 1 ∨ X % 6 = 2 ∨ X % 6 = 3 := by omega
  obtain ⟨r5, r0, r1, r2, r3, -⟩ := mkF_at (f := f) (t := t) (s := s) hX
  rcases hcase with h | h | h | h | h
  · have HR := Lib.hid (r5 h)
    clear r5 r0 r1 r2 r3
    go_enter Tryd.func20, Tryd.ntmps20
    go_upto_region 1 with (fail)
    rw [show w.alloc (.cells #[.int .i64 0, .string ⟨#[]⟩, .int .i64 0, .slice none 0 0] 24) = w1 from HW1.out]
    clear HW1
    go_wp2
    refine bodyPost_ret (results_cell (T := 24) (p := ⟨w.heap.size, 0, none⟩) rfl rfl (loadVar24' _ _ (heap_four HX.out (.int .i64 5) (.string ⟨#[]⟩) (.int .i64 0) (.slice none 0 0)))) rfl ?_
    exact mk_out (s := []) HB.out HR.out (by unfold Fit; simp)
  · have HR := Lib.hid (r0 h)
    have h2 : X % 2 = 0 := by omega
    have hdl := dec_len20 (n := X) (by omega) (by omega)
    clear r5 r0 r1 r2 r3
    go_enter Tryd.func20, Tryd.ntmps20
    go_upto_region 1 with (fail)
    rw [show w.alloc (.cells #[.int .i64 0, .string ⟨#[]⟩, .int .i64 0, .slice none 0 0] 24) = w1 from HW1.out]
    clear HW1
    go_wp2_with fail
    refine (digits_any X _ (by omega) (by omega)).mono ?_
    rintro e w2 ⟨rfl, hb2⟩
    have HB2 := Lib.hid (HB.out.trans (hb2.mono HB.out.size))
    have hx2 := (hb2.block w.heap.size (Array.getElem?_eq_some_iff.1 HX.out).1).trans HX.out
    obtain ⟨b0, b1, b2, b3, f0, f1, f2, f3⟩ := cells_four' hx2
    have HX2 := Lib.hid hx2
    clear hb2 hx2
    go_wp2
    rw [str_cons7]
    refine bodyPost_ret (results_cell (T := 24) (p := ⟨w.heap.size, 0, none⟩) rfl rfl (loadVar24' _ _ (heap_four HX2.out (.int .i64 1) (.string ⟨(69 :: Dig.dec X).toArray⟩) (.int .i64 0) (.slice none 0 0)))) rfl ?_
    exact mk_out HB2.out HR.out (by unfold Fit; simp; omega)
  · have HR := Lib.hid (r1 h)
    have h2 : X % 2 = 1 := by omega
    have hdl := dec_len20 (n := X) (by omega) (by omega)
    clear r5 r0 r1 r2 r3
    go_enter Tryd.func20, Tryd.ntmps20
    go_upto_region 1 with (fail)
    rw [show w.alloc (.cells #[.int .i64 0, .string ⟨#[]⟩, .int .i64 0, .slice none 0 0] 24) = w1 from HW1.out]
    clear HW1
    go_wp2_with fail
    refine (digits_any X _ (by omega) (by omega)).mono ?_
    rintro e w2 ⟨rfl, hb2⟩
    have HB2 := Lib.hid (HB.out.trans (hb2.mono HB.out.size))
    have hx2 := (hb2.block w.heap.size (Array.getElem?_eq_some_iff.1 HX.out).1).trans HX.out
    obtain ⟨b0, b1, b2, b3, f0, f1, f2, f3⟩ := cells_four' hx2
    have HX2 := Lib.hid hx2
    clear hb2 hx2
    go_wp2
    rw [str_cons7]
    refine bodyPost_ret (results_cell (T := 24) (p := ⟨w.heap.size, 0, none⟩) rfl rfl (loadVar24' _ _ (heap_four HX2.out (.int .i64 2) (.string ⟨(69 :: Dig.dec X).toArray⟩) (.int .i64 0) (.slice none 0 0)))) rfl ?_
    exact mk_out HB2.out HR.out (by unfold Fit; simp; omega)
  · have HR := Lib.hid (r2 h)
    obtain ⟨n0, n1, e1, e2, e3, e4⟩ := mk_num hx0 hx255
    clear r5 r0 r1 r2 r3
    go_enter Tryd.func20, Tryd.ntmps20
    go_upto_region 1 with (fail)
    rw [show w.alloc (.cells #[.int .i64 0, .string ⟨#[]⟩, .int .i64 0, .slice none 0 0] 24) = w1 from HW1.out]
    clear HW1
    go_wp2
    refine bodyPost_ret (results_cell (T := 24) (p := ⟨w.heap.size, 0, none⟩) rfl rfl (loadVar24' _ _ (heap_four HX.out (.int .i64 3) (.string ⟨#[]⟩) (.int .i64 ((X - 128) * X * X * X)) (.slice none 0 0)))) rfl ?_
    exact mk_out (s := []) HB.out HR.out (by unfold Fit; simp; omega)
  · have HR := Lib.hid (r3 h)
    clear r5 r0 r1 r2 r3
    have hd0 : 0 ≤ X / 6 := by omega
    have hd1 : X / 6 ≤ 42 := by omega
    go_enter Tryd.func20, Tryd.ntmps20
    go_upto_region 1 with (fail)
    rw [show w.alloc (.cells #[.int .i64 0, .string ⟨#[]⟩, .int .i64 0, .slice none 0 0] 24) = w1 from HW1.out]
    clear HW1
    go_wp2
    rw [str_take7 s hd0]
    refine bodyPost_ret (results_cell (T := 24) (p := ⟨w.heap.size, 0, none⟩) rfl rfl (loadVar24' _ _ (heap_four HX.out (.int .i64 4) (.string ⟨(s.take (X / 6).toNat).toArray⟩) (.int .i64 0) (.slice none 0 0)))) rfl ?_
    exact mk_out HB.out HR.out (by unfold Fit; simp; omega)
end Go.Proofs.YtcjbfgkmpoebgaaDoor
