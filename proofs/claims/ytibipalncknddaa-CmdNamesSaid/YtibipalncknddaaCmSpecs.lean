/- The contracts of the reference's spec, one, Specs. -/
import Derived.Test.YtibipalncknddaaCmBase
import Derived.Test.YtibipalncknddaaCmSpRow
import Derived.Deep.Cut
namespace Go.Proofs.Ytibipalncknddaa
open Go.RowKit Go.Shelf

set_option maxRecDepth 100000 in
set_option maxHeartbeats 1000000 in
theorem spec_any (nm : ByteArray) (a b c d f : Int) (g : Bool) (w : World) :
    Calls Try.prog 36 #[.string nm, .int .i64 a, .int .i64 b, .int .i64 c, .int .i64 d, .int .i64 f, .bool g] w fun e W' => e = .returned (.agg #[.string nm, .int .i64 a, .int .i64 b, .int .i64 c, .int .i64 d, .int .i64 f, .bool g]) ∧ Below w.heap.size w W' := by
  go_enter Try.func36, Try.ntmps36
  go_wp2
  refine bodyPost_ret (v := .agg #[.string nm, .int .i64 a, .int .i64 b, .int .i64 c, .int .i64 d, .int .i64 f, .bool g]) ?_ rfl ⟨rfl, ?_⟩
  · simp [results, Try.results36, go_sem]
  · exact (Below.refl _ _).alloc (Nat.le_refl _) _

set_option maxRecDepth 100000 in
set_option maxHeartbeats 1000000 in
theorem one_any (nm : ByteArray) (a b : Int) (g : Bool) (w : World) :
    Calls Try.prog 37 #[.string nm, .int .i64 a, .int .i64 b, .bool g] w fun e W' => e = .returned (.agg #[.string nm, .int .i64 a, .int .i64 b, .int .i64 1, .int .i64 1, .int .i64 1, .bool g]) ∧ Below w.heap.size w W' := by
  have hsp := fun W => spec_any nm a b 1 1 1 g W
  have HS := Lib.hid hsp
  clear hsp
  go_enter Try.func37, Try.ntmps37
  go_upto_region 1 with (fail)
  obtain ⟨w1, hw1⟩ : ∃ w1, w.alloc (.cells #[.string ⟨#[]⟩, .int .i64 0, .int .i64 0, .int .i64 0, .int .i64 0, .int .i64 0, .bool false] 26) = w1 := ⟨_, rfl⟩
  have hk : w1.heap[w.heap.size]? = some (.cells #[.string ⟨#[]⟩, .int .i64 0, .int .i64 0, .int .i64 0, .int .i64 0, .int .i64 0, .bool false] 26 (0, 0)) := by rw [← hw1]; exact World.alloc_heap_new w _
  have hb1 : Below w.heap.size w w1 := by rw [← hw1]; exact (Below.refl _ w).alloc (Nat.le_refl _) _
  have hlt : w.heap.size < w1.heap.size := by rw [← hw1]; simp
  rw [hw1]
  have HK := Lib.hid hk
  have HB1 := Lib.hid hb1
  clear hw1 hk hb1
  go_wp2_with (go_at_call 36; refine (HS.out _).mono ?_; rintro e w2 ⟨rfl, hb2⟩; have hk2 := (hb2.block w.heap.size hlt).trans HK.out; have z0 : ∀ j, w2.frozen? ⟨w.heap.size, j, none⟩ = false := (fun j => by simp [World.frozen?, hk2]); have c0 : w2.cell? ⟨w.heap.size, 0, none⟩ = some (.string ⟨#[]⟩) := (by simp [World.cell?, hk2]); have c1 : w2.cell? ⟨w.heap.size, 1, none⟩ = some (.int .i64 0) := (by simp [World.cell?, hk2]); have c2 : w2.cell? ⟨w.heap.size, 2, none⟩ = some (.int .i64 0) := (by simp [World.cell?, hk2]); have c3 : w2.cell? ⟨w.heap.size, 3, none⟩ = some (.int .i64 0) := (by simp [World.cell?, hk2]); have c4 : w2.cell? ⟨w.heap.size, 4, none⟩ = some (.int .i64 0) := (by simp [World.cell?, hk2]); have c5 : w2.cell? ⟨w.heap.size, 5, none⟩ = some (.int .i64 0) := (by simp [World.cell?, hk2]); have c6 : w2.cell? ⟨w.heap.size, 6, none⟩ = some (.bool false) := (by simp [World.cell?, hk2]); have HB2 := Lib.hid (HB1.out.trans (hb2.mono HB1.out.size)); have HK2 := Lib.hid hk2; clear hb2 hk2)
  refine bodyPost_ret (v := .agg #[.string nm, .int .i64 a, .int .i64 b, .int .i64 1, .int .i64 1, .int .i64 1, .bool g]) ?_ rfl ⟨rfl, ?_⟩
  · refine results_cell rfl rfl ?_
    have hk2 := HK2.out
    simp [loadVar, go_sem, World.cell?, World.setCell, Array.getElem?_modify, hk2]
  · exact ((((((HB2.out.setCell (p := ⟨w.heap.size, 0, none⟩) (Nat.le_refl _) _).setCell (p := ⟨w.heap.size, 1, none⟩) (Nat.le_refl _) _).setCell (p := ⟨w.heap.size, 2, none⟩) (Nat.le_refl _) _).setCell (p := ⟨w.heap.size, 3, none⟩) (Nat.le_refl _) _).setCell (p := ⟨w.heap.size, 4, none⟩) (Nat.le_refl _) _).setCell (p := ⟨w.heap.size, 5, none⟩) (Nat.le_refl _) _).setCell (p := ⟨w.heap.size, 6, none⟩) (Nat.le_refl _) _

end Go.Proofs.Ytibipalncknddaa
