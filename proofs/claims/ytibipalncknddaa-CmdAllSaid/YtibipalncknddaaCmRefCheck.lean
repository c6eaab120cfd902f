/- The contract of the reference's Check. -/
import Derived.Test.YtibipalncknddaaCmRefKeys
namespace Go.Proofs.Ytibipalncknddaa
open Go.RowKit Go.Shelf

theorem Cm.named {s : Cm.Sp} (h : s ∈ Cm.tab) : (s.nm = [77, 83, 69, 84] ∨ s.nm = [77, 83, 69, 84, 78, 88] ∨ s.nm = [72, 83, 69, 84]) → s.most = 0 := (show ∀ s ∈ Cm.tab, (s.nm = [77, 83, 69, 84] ∨ s.nm = [77, 83, 69, 84, 78, 88] ∨ s.nm = [72, 83, 69, 84]) → s.most = 0 by decide +kernel) s h

theorem refFind_v {n : List UInt8} {r : Value} (h : findV n = r) (w : World) (hn : n.length ≤ 9223372036854775807) : Calls Try.prog 12 #[.string ⟨n.toArray⟩] w fun e W' => e = .returned r ∧ Below w.heap.size w W' := h ▸ refFind_any n w hn

set_option maxRecDepth 100000 in
set_option maxHeartbeats 4000000 in
theorem refCheck_size (a : Option Addr) (cap n : Nat) (w : World) (hn : n ≤ 9223372036854775807) (h : n = 0 ∨ 100 < n) :
    Calls Try.prog 10 #[.slice a n cap] w fun e W' => e = .returned (.tuple #[spV zeroSp, .bool false]) ∧ Below w.heap.size w W' := by
  have hz := zero_new w
  have HZ := Lib.hid hz
  clear hz
  rcases h with rfl | h
  · go_enter Try.func10, Try.ntmps10
    go_wp2
    exact bodyPost_ret (results_cellt rfl rfl (loadVar26 _ _ _ HZ.out.at)) rfl ⟨rfl, (Below.refl _ _).alloc (Nat.le_refl _) _⟩
  · have h0 : ((n : Int) == 0) = false := by rw [beq_eq_false_iff_ne]; omega
    have h1 : (100 : Int) < n := by omega
    have h2 : (n : Int) ≤ 9223372036854775807 := by omega
    go_enter Try.func10, Try.ntmps10
    go_wp2
    exact bodyPost_ret (results_cellt rfl rfl (loadVar26 _ _ _ HZ.out.at)) rfl ⟨rfl, (Below.refl _ _).alloc (Nat.le_refl _) _⟩

set_option maxRecDepth 100000 in
set_option maxHeartbeats 4000000 in
theorem refCheck_none (a : Option Addr) (cap : Nat) (ws : List (List UInt8)) (w : World) (hW : Wds w a cap ws) (h0 : 0 < ws.length) (h1 : ws.length ≤ 100) (hf : findV (ws.getD 0 []) = .tuple #[spV zeroSp, .bool false]) :
    Calls Try.prog 10 #[.slice a ws.length cap] w fun e W' => e = .returned (.tuple #[spV zeroSp, .bool false]) ∧ Below w.heap.size w W' := by
  have hx := hW.len (k := 0)
  obtain ⟨b, off, rfl, hb, hc⟩ := first_cell hW h0
  have hfx := fun W => refFind_v hf W hx
  have HX := Lib.hid hfx
  have hz := zero_new w
  have hbz : Below w.heap.size w (w.alloc (.cells (spL zeroSp).toArray 26)) := (Below.refl _ _).alloc (Nat.le_refl _) _
  have HZ := Lib.hid hz
  have HBZ := Lib.hid hbz
  have e0 : ((ws.length : Int) == 0) = false := by rw [beq_eq_false_iff_ne]; omega
  have e1 : (ws.length : Int) ≤ 100 := by omega
  have e2 : (0 : Int) < ws.length := by omega
  clear hfx hf hx hz hbz hW
  generalize ws.getD 0 [] = x at *
  generalize ws.length = n at *
  go_enter Try.func10, Try.ntmps10
  go_upto_region 5 with ((go_at_call 12; refine (HX.out _).mono ?_; rintro e w1 ⟨rfl, hb1⟩; have hz1 : SpBox w1 w.heap.size zeroSp := (Keeps.of_below (S := fun _ => True) hb1 (fun k h _ => by simpa using h)).heap HZ.out trivial; have HZ1 := Lib.hid hz1; have hbw1 : Below w.heap.size w w1 := HBZ.out.trans (hb1.mono (by simp)); have HB1 := Lib.hid hbw1; clear hb1 hz1 hbw1; simp only [spV, zeroSp]))
  obtain ⟨w2, hw2⟩ : ∃ w2, w1.alloc (.cells #[.string ⟨#[]⟩, .int .i64 0, .int .i64 0, .int .i64 0, .int .i64 0, .int .i64 0, .bool false] 26) = w2 := ⟨_, rfl⟩
  have hz2 : SpBox w2 w.heap.size zeroSp := by rw [← hw2]; exact ((Keeps.refl (fun _ => True) w1).alloc _).heap HZ1.out trivial
  have hb2 : Below w.heap.size w w2 := by rw [← hw2]; exact HB1.out.alloc HB1.out.size _
  rw [hw2]
  have HZ2 := Lib.hid hz2
  have HB2 := Lib.hid hb2
  obtain ⟨g0, g1, g2, g3, g4, g5, g6⟩ := hz2.at
  have y0 := hz2.free 0 (by omega)
  have y1 := hz2.free 1 (by omega)
  have y2 := hz2.free 2 (by omega)
  have y3 := hz2.free 3 (by omega)
  have y4 := hz2.free 4 (by omega)
  have y5 := hz2.free 5 (by omega)
  have y6 := hz2.free 6 (by omega)
  simp only [Nat.zero_add, zeroSp] at g0 g1 g2 g3 g4 g5 g6
  clear hw2 hz2 hb2
  go_wp2
  have hfin := HZ2.out.store zeroSp
  have hbf : Below w.heap.size w (stSp w2 w.heap.size zeroSp) := HB2.out.trans (((Keeps.refl (fun j => j < w.heap.size) w2).stSp (.inr (by simp)) _).below HB2.out.size fun j hj => hj)
  show bodyPost Try.prog Try.f10 _ .ret _ (stSp w2 w.heap.size zeroSp)
  generalize stSp w2 w.heap.size zeroSp = w8 at *
  exact bodyPost_ret (results_cellt rfl rfl (loadVar26 _ _ _ hfin.at)) rfl ⟨rfl, hbf⟩

set_option maxRecDepth 100000 in
set_option maxHeartbeats 4000000 in
theorem refCheck_few (a : Option Addr) (cap : Nat) (ws : List (List UInt8)) (s : Cm.Sp) (w : World) (hW : Wds w a cap ws) (h0 : 0 < ws.length) (h1 : ws.length ≤ 100) (hf : findV (ws.getD 0 []) = .tuple #[spV s, .bool true]) (hc1 : (ws.length : Int) < s.least) :
    Calls Try.prog 10 #[.slice a ws.length cap] w fun e W' => e = .returned (.tuple #[spV zeroSp, .bool false]) ∧ Below w.heap.size w W' := by
  have hx := hW.len (k := 0)
  obtain ⟨b, off, rfl, hb, hc⟩ := first_cell hW h0
  have hfx := fun W => refFind_v hf W hx
  have HX := Lib.hid hfx
  have hz := zero_new w
  have hbz : Below w.heap.size w (w.alloc (.cells (spL zeroSp).toArray 26)) := (Below.refl _ _).alloc (Nat.le_refl _) _
  have HZ := Lib.hid hz
  have HBZ := Lib.hid hbz
  have e0 : ((ws.length : Int) == 0) = false := by rw [beq_eq_false_iff_ne]; omega
  have e1 : (ws.length : Int) ≤ 100 := by omega
  have e2 : (0 : Int) < ws.length := by omega
  clear hfx hf hx hz hbz hW
  obtain ⟨nm, least, most, first, last, step, wb⟩ := s
  simp only at *
  generalize ws.getD 0 [] = x at *
  generalize ws.length = n at *
  go_enter Try.func10, Try.ntmps10
  go_upto_region 5 with ((go_at_call 12; refine (HX.out _).mono ?_; rintro e w1 ⟨rfl, hb1⟩; have hz1 : SpBox w1 w.heap.size zeroSp := (Keeps.of_below (S := fun _ => True) hb1 (fun k h _ => by simpa using h)).heap HZ.out trivial; have HZ1 := Lib.hid hz1; have hbw1 : Below w.heap.size w w1 := HBZ.out.trans (hb1.mono (by simp)); have HB1 := Lib.hid hbw1; clear hb1 hz1 hbw1; simp only [spV]))
  obtain ⟨w2, hw2⟩ : ∃ w2, w1.alloc (.cells #[.string ⟨nm.toArray⟩, .int .i64 least, .int .i64 most, .int .i64 first, .int .i64 last, .int .i64 step, .bool wb] 26) = w2 := ⟨_, rfl⟩
  have hz2 : SpBox w2 w.heap.size zeroSp := by rw [← hw2]; exact ((Keeps.refl (fun _ => True) w1).alloc _).heap HZ1.out trivial
  have hb2 : Below w.heap.size w w2 := by rw [← hw2]; exact HB1.out.alloc HB1.out.size _
  rw [hw2]
  have HZ2 := Lib.hid hz2
  have HB2 := Lib.hid hb2
  obtain ⟨g0, g1, g2, g3, g4, g5, g6⟩ := hz2.at
  have y0 := hz2.free 0 (by omega)
  have y1 := hz2.free 1 (by omega)
  have y2 := hz2.free 2 (by omega)
  have y3 := hz2.free 3 (by omega)
  have y4 := hz2.free 4 (by omega)
  have y5 := hz2.free 5 (by omega)
  have y6 := hz2.free 6 (by omega)
  simp only [Nat.zero_add, zeroSp] at g0 g1 g2 g3 g4 g5 g6
  clear hw2 hz2 hb2
  go_wp2
  have hfin := HZ2.out.store zeroSp
  have hbf : Below w.heap.size w (stSp w2 w.heap.size zeroSp) := HB2.out.trans (((Keeps.refl (fun j => j < w.heap.size) w2).stSp (.inr (by simp)) _).below HB2.out.size fun j hj => hj)
  show bodyPost Try.prog Try.f10 _ .ret _ (stSp w2 w.heap.size zeroSp)
  generalize stSp w2 w.heap.size zeroSp = w8 at *
  exact bodyPost_ret (results_cellt rfl rfl (loadVar26 _ _ _ hfin.at)) rfl ⟨rfl, hbf⟩

set_option maxRecDepth 100000 in
set_option maxHeartbeats 4000000 in
theorem refCheck_many (a : Option Addr) (cap : Nat) (ws : List (List UInt8)) (s : Cm.Sp) (w : World) (hW : Wds w a cap ws) (h0 : 0 < ws.length) (h1 : ws.length ≤ 100) (hf : findV (ws.getD 0 []) = .tuple #[spV s, .bool true]) (hc1 : s.least ≤ (ws.length : Int)) (hc2 : 0 < s.most) (hc3 : s.most < (ws.length : Int)) :
    Calls Try.prog 10 #[.slice a ws.length cap] w fun e W' => e = .returned (.tuple #[spV zeroSp, .bool false]) ∧ Below w.heap.size w W' := by
  have hx := hW.len (k := 0)
  obtain ⟨b, off, rfl, hb, hc⟩ := first_cell hW h0
  have hfx := fun W => refFind_v hf W hx
  have HX := Lib.hid hfx
  have hz := zero_new w
  have hbz : Below w.heap.size w (w.alloc (.cells (spL zeroSp).toArray 26)) := (Below.refl _ _).alloc (Nat.le_refl _) _
  have HZ := Lib.hid hz
  have HBZ := Lib.hid hbz
  have e0 : ((ws.length : Int) == 0) = false := by rw [beq_eq_false_iff_ne]; omega
  have e1 : (ws.length : Int) ≤ 100 := by omega
  have e2 : (0 : Int) < ws.length := by omega
  clear hfx hf hx hz hbz hW
  obtain ⟨nm, least, most, first, last, step, wb⟩ := s
  simp only at *
  generalize ws.getD 0 [] = x at *
  generalize ws.length = n at *
  go_enter Try.func10, Try.ntmps10
  go_upto_region 5 with ((go_at_call 12; refine (HX.out _).mono ?_; rintro e w1 ⟨rfl, hb1⟩; have hz1 : SpBox w1 w.heap.size zeroSp := (Keeps.of_below (S := fun _ => True) hb1 (fun k h _ => by simpa using h)).heap HZ.out trivial; have HZ1 := Lib.hid hz1; have hbw1 : Below w.heap.size w w1 := HBZ.out.trans (hb1.mono (by simp)); have HB1 := Lib.hid hbw1; clear hb1 hz1 hbw1; simp only [spV]))
  obtain ⟨w2, hw2⟩ : ∃ w2, w1.alloc (.cells #[.string ⟨nm.toArray⟩, .int .i64 least, .int .i64 most, .int .i64 first, .int .i64 last, .int .i64 step, .bool wb] 26) = w2 := ⟨_, rfl⟩
  have hz2 : SpBox w2 w.heap.size zeroSp := by rw [← hw2]; exact ((Keeps.refl (fun _ => True) w1).alloc _).heap HZ1.out trivial
  have hb2 : Below w.heap.size w w2 := by rw [← hw2]; exact HB1.out.alloc HB1.out.size _
  rw [hw2]
  have HZ2 := Lib.hid hz2
  have HB2 := Lib.hid hb2
  obtain ⟨g0, g1, g2, g3, g4, g5, g6⟩ := hz2.at
  have y0 := hz2.free 0 (by omega)
  have y1 := hz2.free 1 (by omega)
  have y2 := hz2.free 2 (by omega)
  have y3 := hz2.free 3 (by omega)
  have y4 := hz2.free 4 (by omega)
  have y5 := hz2.free 5 (by omega)
  have y6 := hz2.free 6 (by omega)
  simp only [Nat.zero_add, zeroSp] at g0 g1 g2 g3 g4 g5 g6
  clear hw2 hz2 hb2
  go_wp2
  have hfin := HZ2.out.store zeroSp
  have hbf : Below w.heap.size w (stSp w2 w.heap.size zeroSp) := HB2.out.trans (((Keeps.refl (fun j => j < w.heap.size) w2).stSp (.inr (by simp)) _).below HB2.out.size fun j hj => hj)
  show bodyPost Try.prog Try.f10 _ .ret _ (stSp w2 w.heap.size zeroSp)
  generalize stSp w2 w.heap.size zeroSp = w8 at *
  exact bodyPost_ret (results_cellt rfl rfl (loadVar26 _ _ _ hfin.at)) rfl ⟨rfl, hbf⟩

set_option maxRecDepth 100000 in
set_option maxHeartbeats 4000000 in
theorem refCheck_mset_bad (a : Option Addr) (cap : Nat) (ws : List (List UInt8)) (s : Cm.Sp) (w : World) (hW : Wds w a cap ws) (h0 : 0 < ws.length) (h1 : ws.length ≤ 100) (hf : findV (ws.getD 0 []) = .tuple #[spV s, .bool true]) (hc1 : s.least ≤ (ws.length : Int)) (hm : s.most = 0) (hnm : s.nm = [77, 83, 69, 84]) (hp : ws.length % 2 = 0) :
    Calls Try.prog 10 #[.slice a ws.length cap] w fun e W' => e = .returned (.tuple #[spV zeroSp, .bool false]) ∧ Below w.heap.size w W' := by
  have hx := hW.len (k := 0)
  obtain ⟨b, off, rfl, hb, hc⟩ := first_cell hW h0
  have hfx := fun W => refFind_v hf W hx
  have HX := Lib.hid hfx
  have hz := zero_new w
  have hbz : Below w.heap.size w (w.alloc (.cells (spL zeroSp).toArray 26)) := (Below.refl _ _).alloc (Nat.le_refl _) _
  have HZ := Lib.hid hz
  have HBZ := Lib.hid hbz
  have e0 : ((ws.length : Int) == 0) = false := by rw [beq_eq_false_iff_ne]; omega
  have e1 : (ws.length : Int) ≤ 100 := by omega
  have e2 : (0 : Int) < ws.length := by omega
  clear hfx hf hx hz hbz hW
  obtain ⟨nm, least, most, first, last, step, wb⟩ := s
  simp only at *
  subst hm hnm
  generalize ws.getD 0 [] = x at *
  generalize ws.length = n at *
  have hpar : ((n : Int) % 2 == 0) = true := by rw [beq_iff_eq]; omega
  clear hp
  go_enter Try.func10, Try.ntmps10
  go_upto_region 8 with ((go_at_call 12; refine (HX.out _).mono ?_; rintro e w1 ⟨rfl, hb1⟩; have hz1 : SpBox w1 w.heap.size zeroSp := (Keeps.of_below (S := fun _ => True) hb1 (fun k h _ => by simpa using h)).heap HZ.out trivial; have HZ1 := Lib.hid hz1; have hbw1 : Below w.heap.size w w1 := HBZ.out.trans (hb1.mono (by simp)); have HB1 := Lib.hid hbw1; clear hb1 hz1 hbw1; simp only [spV]))
  obtain ⟨w2, hw2⟩ : ∃ w2, w1.alloc (.cells #[.string ⟨#[77, 83, 69, 84]⟩, .int .i64 least, .int .i64 0, .int .i64 first, .int .i64 last, .int .i64 step, .bool wb] 26) = w2 := ⟨_, rfl⟩
  have hz2 : SpBox w2 w.heap.size zeroSp := by rw [← hw2]; exact ((Keeps.refl (fun _ => True) w1).alloc _).heap HZ1.out trivial
  have hb2 : Below w.heap.size w w2 := by rw [← hw2]; exact HB1.out.alloc HB1.out.size _
  rw [hw2]
  have HZ2 := Lib.hid hz2
  have HB2 := Lib.hid hb2
  obtain ⟨g0, g1, g2, g3, g4, g5, g6⟩ := hz2.at
  have y0 := hz2.free 0 (by omega)
  have y1 := hz2.free 1 (by omega)
  have y2 := hz2.free 2 (by omega)
  have y3 := hz2.free 3 (by omega)
  have y4 := hz2.free 4 (by omega)
  have y5 := hz2.free 5 (by omega)
  have y6 := hz2.free 6 (by omega)
  simp only [Nat.zero_add, zeroSp] at g0 g1 g2 g3 g4 g5 g6
  clear hw2 hz2 hb2
  go_wp2
  have hfin := HZ2.out.store zeroSp
  have hbf : Below w.heap.size w (stSp w2 w.heap.size zeroSp) := HB2.out.trans (((Keeps.refl (fun j => j < w.heap.size) w2).stSp (.inr (by simp)) _).below HB2.out.size fun j hj => hj)
  show bodyPost Try.prog Try.f10 _ .ret _ (stSp w2 w.heap.size zeroSp)
  generalize stSp w2 w.heap.size zeroSp = w8 at *
  exact bodyPost_ret (results_cellt rfl rfl (loadVar26 _ _ _ hfin.at)) rfl ⟨rfl, hbf⟩

set_option maxRecDepth 100000 in
set_option maxHeartbeats 4000000 in
theorem refCheck_msetnx_bad (a : Option Addr) (cap : Nat) (ws : List (List UInt8)) (s : Cm.Sp) (w : World) (hW : Wds w a cap ws) (h0 : 0 < ws.length) (h1 : ws.length ≤ 100) (hf : findV (ws.getD 0 []) = .tuple #[spV s, .bool true]) (hc1 : s.least ≤ (ws.length : Int)) (hm : s.most = 0) (hnm : s.nm = [77, 83, 69, 84, 78, 88]) (hp : ws.length % 2 = 0) :
    Calls Try.prog 10 #[.slice a ws.length cap] w fun e W' => e = .returned (.tuple #[spV zeroSp, .bool false]) ∧ Below w.heap.size w W' := by
  have hx := hW.len (k := 0)
  obtain ⟨b, off, rfl, hb, hc⟩ := first_cell hW h0
  have hfx := fun W => refFind_v hf W hx
  have HX := Lib.hid hfx
  have hz := zero_new w
  have hbz : Below w.heap.size w (w.alloc (.cells (spL zeroSp).toArray 26)) := (Below.refl _ _).alloc (Nat.le_refl _) _
  have HZ := Lib.hid hz
  have HBZ := Lib.hid hbz
  have e0 : ((ws.length : Int) == 0) = false := by rw [beq_eq_false_iff_ne]; omega
  have e1 : (ws.length : Int) ≤ 100 := by omega
  have e2 : (0 : Int) < ws.length := by omega
  clear hfx hf hx hz hbz hW
  obtain ⟨nm, least, most, first, last, step, wb⟩ := s
  simp only at *
  subst hm hnm
  generalize ws.getD 0 [] = x at *
  generalize ws.length = n at *
  have hpar : ((n : Int) % 2 == 0) = true := by rw [beq_iff_eq]; omega
  clear hp
  go_enter Try.func10, Try.ntmps10
  go_upto_region 8 with ((go_at_call 12; refine (HX.out _).mono ?_; rintro e w1 ⟨rfl, hb1⟩; have hz1 : SpBox w1 w.heap.size zeroSp := (Keeps.of_below (S := fun _ => True) hb1 (fun k h _ => by simpa using h)).heap HZ.out trivial; have HZ1 := Lib.hid hz1; have hbw1 : Below w.heap.size w w1 := HBZ.out.trans (hb1.mono (by simp)); have HB1 := Lib.hid hbw1; clear hb1 hz1 hbw1; simp only [spV]))
  obtain ⟨w2, hw2⟩ : ∃ w2, w1.alloc (.cells #[.string ⟨#[77, 83, 69, 84, 78, 88]⟩, .int .i64 least, .int .i64 0, .int .i64 first, .int .i64 last, .int .i64 step, .bool wb] 26) = w2 := ⟨_, rfl⟩
  have hz2 : SpBox w2 w.heap.size zeroSp := by rw [← hw2]; exact ((Keeps.refl (fun _ => True) w1).alloc _).heap HZ1.out trivial
  have hb2 : Below w.heap.size w w2 := by rw [← hw2]; exact HB1.out.alloc HB1.out.size _
  rw [hw2]
  have HZ2 := Lib.hid hz2
  have HB2 := Lib.hid hb2
  obtain ⟨g0, g1, g2, g3, g4, g5, g6⟩ := hz2.at
  have y0 := hz2.free 0 (by omega)
  have y1 := hz2.free 1 (by omega)
  have y2 := hz2.free 2 (by omega)
  have y3 := hz2.free 3 (by omega)
  have y4 := hz2.free 4 (by omega)
  have y5 := hz2.free 5 (by omega)
  have y6 := hz2.free 6 (by omega)
  simp only [Nat.zero_add, zeroSp] at g0 g1 g2 g3 g4 g5 g6
  clear hw2 hz2 hb2
  go_wp2
  have hfin := HZ2.out.store zeroSp
  have hbf : Below w.heap.size w (stSp w2 w.heap.size zeroSp) := HB2.out.trans (((Keeps.refl (fun j => j < w.heap.size) w2).stSp (.inr (by simp)) _).below HB2.out.size fun j hj => hj)
  show bodyPost Try.prog Try.f10 _ .ret _ (stSp w2 w.heap.size zeroSp)
  generalize stSp w2 w.heap.size zeroSp = w8 at *
  exact bodyPost_ret (results_cellt rfl rfl (loadVar26 _ _ _ hfin.at)) rfl ⟨rfl, hbf⟩

set_option maxRecDepth 100000 in
set_option maxHeartbeats 4000000 in
theorem refCheck_hset_bad (a : Option Addr) (cap : Nat) (ws : List (List UInt8)) (s : Cm.Sp) (w : World) (hW : Wds w a cap ws) (h0 : 0 < ws.length) (h1 : ws.length ≤ 100) (hf : findV (ws.getD 0 []) = .tuple #[spV s, .bool true]) (hc1 : s.least ≤ (ws.length : Int)) (hm : s.most = 0) (hnm : s.nm = [72, 83, 69, 84]) (hp : ws.length % 2 = 1) :
    Calls Try.prog 10 #[.slice a ws.length cap] w fun e W' => e = .returned (.tuple #[spV zeroSp, .bool false]) ∧ Below w.heap.size w W' := by
  have hx := hW.len (k := 0)
  obtain ⟨b, off, rfl, hb, hc⟩ := first_cell hW h0
  have hfx := fun W => refFind_v hf W hx
  have HX := Lib.hid hfx
  have hz := zero_new w
  have hbz : Below w.heap.size w (w.alloc (.cells (spL zeroSp).toArray 26)) := (Below.refl _ _).alloc (Nat.le_refl _) _
  have HZ := Lib.hid hz
  have HBZ := Lib.hid hbz
  have e0 : ((ws.length : Int) == 0) = false := by rw [beq_eq_false_iff_ne]; omega
  have e1 : (ws.length : Int) ≤ 100 := by omega
  have e2 : (0 : Int) < ws.length := by omega
  clear hfx hf hx hz hbz hW
  obtain ⟨nm, least, most, first, last, step, wb⟩ := s
  simp only at *
  subst hm hnm
  generalize ws.getD 0 [] = x at *
  generalize ws.length = n at *
  have hpar : ((n : Int) % 2 == 0) = false := by rw [beq_eq_false_iff_ne]; omega
  clear hp
  go_enter Try.func10, Try.ntmps10
  go_upto_region 8 with ((go_at_call 12; refine (HX.out _).mono ?_; rintro e w1 ⟨rfl, hb1⟩; have hz1 : SpBox w1 w.heap.size zeroSp := (Keeps.of_below (S := fun _ => True) hb1 (fun k h _ => by simpa using h)).heap HZ.out trivial; have HZ1 := Lib.hid hz1; have hbw1 : Below w.heap.size w w1 := HBZ.out.trans (hb1.mono (by simp)); have HB1 := Lib.hid hbw1; clear hb1 hz1 hbw1; simp only [spV]))
  obtain ⟨w2, hw2⟩ : ∃ w2, w1.alloc (.cells #[.string ⟨#[72, 83, 69, 84]⟩, .int .i64 least, .int .i64 0, .int .i64 first, .int .i64 last, .int .i64 step, .bool wb] 26) = w2 := ⟨_, rfl⟩
  have hz2 : SpBox w2 w.heap.size zeroSp := by rw [← hw2]; exact ((Keeps.refl (fun _ => True) w1).alloc _).heap HZ1.out trivial
  have hb2 : Below w.heap.size w w2 := by rw [← hw2]; exact HB1.out.alloc HB1.out.size _
  rw [hw2]
  have HZ2 := Lib.hid hz2
  have HB2 := Lib.hid hb2
  obtain ⟨g0, g1, g2, g3, g4, g5, g6⟩ := hz2.at
  have y0 := hz2.free 0 (by omega)
  have y1 := hz2.free 1 (by omega)
  have y2 := hz2.free 2 (by omega)
  have y3 := hz2.free 3 (by omega)
  have y4 := hz2.free 4 (by omega)
  have y5 := hz2.free 5 (by omega)
  have y6 := hz2.free 6 (by omega)
  simp only [Nat.zero_add, zeroSp] at g0 g1 g2 g3 g4 g5 g6
  clear hw2 hz2 hb2
  go_wp2
  have hfin := HZ2.out.store zeroSp
  have hbf : Below w.heap.size w (stSp w2 w.heap.size zeroSp) := HB2.out.trans (((Keeps.refl (fun j => j < w.heap.size) w2).stSp (.inr (by simp)) _).below HB2.out.size fun j hj => hj)
  show bodyPost Try.prog Try.f10 _ .ret _ (stSp w2 w.heap.size zeroSp)
  generalize stSp w2 w.heap.size zeroSp = w8 at *
  exact bodyPost_ret (results_cellt rfl rfl (loadVar26 _ _ _ hfin.at)) rfl ⟨rfl, hbf⟩

set_option maxRecDepth 100000 in
set_option maxHeartbeats 4000000 in
theorem refCheck_mset (a : Option Addr) (cap : Nat) (ws : List (List UInt8)) (s : Cm.Sp) (w : World) (hW : Wds w a cap ws) (h0 : 0 < ws.length) (h1 : ws.length ≤ 100) (hf : findV (ws.getD 0 []) = .tuple #[spV s, .bool true]) (hok : Cm.Ok s) (hfs : Cm.findS (ws.getD 0 []) = some s) (hcn : Cm.countOk s ws.length = true) (hc1 : s.least ≤ (ws.length : Int)) (hm : s.most = 0) (hnm : s.nm = [77, 83, 69, 84]) (hp : ws.length % 2 = 1) :
    Calls Try.prog 10 #[.slice a ws.length cap] w fun e W' => e = .returned (chkV ws) ∧ Below w.heap.size w W' := by
  have hchk := Cm.check_some (by omega) hfs
  rw [hcn, Bool.true_and] at hchk
  have HCK := Lib.hid hchk
  have hky := fun W (h : Below w.heap.size w W) => refKeysBy_any s a cap ws W (hW.later h) (by omega) hok hc1
  have HKy := Lib.hid hky
  clear hchk hky
  have hx := hW.len (k := 0)
  obtain ⟨b, off, rfl, hb, hc⟩ := first_cell hW h0
  have hfx := fun W => refFind_v hf W hx
  have HX := Lib.hid hfx
  have hz := zero_new w
  have hbz : Below w.heap.size w (w.alloc (.cells (spL zeroSp).toArray 26)) := (Below.refl _ _).alloc (Nat.le_refl _) _
  have HZ := Lib.hid hz
  have HBZ := Lib.hid hbz
  have e0 : ((ws.length : Int) == 0) = false := by rw [beq_eq_false_iff_ne]; omega
  have e1 : (ws.length : Int) ≤ 100 := by omega
  have e2 : (0 : Int) < ws.length := by omega
  clear hfx hf hx hz hbz hW hok hfs hcn
  obtain ⟨nm, least, most, first, last, step, wb⟩ := s
  simp only at *
  subst hm hnm
  generalize ws.getD 0 [] = x at *
  have hpar : ((ws.length : Int) % 2 == 0) = false := by rw [beq_eq_false_iff_ne]; omega
  clear hp
  go_enter Try.func10, Try.ntmps10
  go_upto_region 9 with ((go_at_call 12; refine (HX.out _).mono ?_; rintro e w1 ⟨rfl, hb1⟩; have hz1 : SpBox w1 w.heap.size zeroSp := (Keeps.of_below (S := fun _ => True) hb1 (fun k h _ => by simpa using h)).heap HZ.out trivial; have HZ1 := Lib.hid hz1; have hbw1 : Below w.heap.size w w1 := HBZ.out.trans (hb1.mono (by simp)); have HB1 := Lib.hid hbw1; clear hb1 hz1 hbw1; simp only [spV]))
  obtain ⟨w2, hw2⟩ : ∃ w2, w1.alloc (.cells #[.string ⟨#[77, 83, 69, 84]⟩, .int .i64 least, .int .i64 0, .int .i64 first, .int .i64 last, .int .i64 step, .bool wb] 26) = w2 := ⟨_, rfl⟩
  have hz2 : SpBox w2 w.heap.size zeroSp := by rw [← hw2]; exact ((Keeps.refl (fun _ => True) w1).alloc _).heap HZ1.out trivial
  have hb2 : Below w.heap.size w w2 := by rw [← hw2]; exact HB1.out.alloc HB1.out.size _
  have hs2 : SpBox w2 w1.heap.size ⟨[77, 83, 69, 84], least, 0, first, last, step, wb⟩ := by rw [← hw2]; exact World.alloc_heap_new w1 _
  have hs1 : w.heap.size < w1.heap.size := HZ1.out.lt
  rw [hw2]
  have HZ2 := Lib.hid hz2
  have HB2 := Lib.hid hb2
  have HS2 := Lib.hid hs2
  obtain ⟨c0, c1, c2, c3, c4, c5, c6⟩ := hs2.at
  simp only [Nat.zero_add] at c0 c1 c2 c3 c4 c5 c6
  have hk2 := HKy.out w2 hb2
  have HK2 := Lib.hid hk2
  clear hw2 hz2 hb2 hs2 hk2
  simp only [spV] at HK2
  go_wp2_with (go_at_call 21; refine HK2.out.mono ?_; rintro e w3 ⟨ak, ck, rfl, hwk, hb3⟩; have HB3 := Lib.hid (HB2.out.trans (hb3.mono HB2.out.size)); have hz3 : SpBox w3 w.heap.size zeroSp := (hb3.block _ HZ2.out.lt).trans HZ2.out; have hs3 : SpBox w3 w1.heap.size ⟨[77, 83, 69, 84], least, 0, first, last, step, wb⟩ := (hb3.block _ HS2.out.lt).trans HS2.out; have HZ3 := Lib.hid hz3; have HS3 := Lib.hid hs3; have HWk := Lib.hid hwk; clear hb3 hz3 hs3 hwk c0 c1 c2 c3 c4 c5 c6)
  have hz3 := HZ3.out
  obtain ⟨g0, g1, g2, g3, g4, g5, g6⟩ := hz3.at
  have y0 := hz3.free 0 (by omega)
  have y1 := hz3.free 1 (by omega)
  have y2 := hz3.free 2 (by omega)
  have y3 := hz3.free 3 (by omega)
  have y4 := hz3.free 4 (by omega)
  have y5 := hz3.free 5 (by omega)
  have y6 := hz3.free 6 (by omega)
  simp only [Nat.zero_add, zeroSp] at g0 g1 g2 g3 g4 g5 g6
  obtain ⟨c0, c1, c2, c3, c4, c5, c6⟩ := HS3.out.at
  simp only [Nat.zero_add] at c0 c1 c2 c3 c4 c5 c6
  clear hz3
  have hkb : (Cm.keysS ⟨[77, 83, 69, 84], least, 0, first, last, step, wb⟩ ws).length ≤ 9223372036854775807 := Nat.le_trans HWk.out.1 HWk.out.2.1
  generalize Cm.keysS ⟨[77, 83, 69, 84], least, 0, first, last, step, wb⟩ ws = ks at *
  have hkbI : (ks.length : Int) ≤ 9223372036854775807 := by omega
  go_loop [3, 8] (fun r i => ∃ k : Nat, k ≤ ks.length ∧ r = .bool false ∧ i = .int .i64 k ∧ Hid (∀ j, j < k → (ks.getD j []).length ≤ 40)) (fun _ i => ks.length - (intOf i).toNat)
  case atStart => exact ⟨0, Nat.zero_le _, rfl, rfl, Lib.hid fun j h => by omega⟩
  case round =>
    obtain ⟨k, hk, rfl, rfl, HJ⟩ := hrel
    by_cases hlt : k < ks.length
    · have k0 : (0 : Int) ≤ (k : Int) := by omega
      have k1 : (k : Int) < (ks.length : Int) := by omega
      obtain ⟨bk, ok, rfl, hbk, hck⟩ := HWk.out.get (by omega)
      have q1 := hck k hlt
      have hxl := HWk.out.len (k := k)
      have HNo := Lib.hid (show 40 < (ks.getD k []).length → Cm.checkS ws = none from fun h => by
        rw [HCK.out, if_neg]
        rw [List.all_eq_true]
        intro hall
        have := hall (ks.getD k []) (by rw [Cm.getD_eq hlt]; exact List.getElem_mem hlt)
        simp at this
        simp at h
        omega)
      have HYes := Lib.hid (show (ks.getD k []).length ≤ 40 → ∀ j, j < k + 1 → (ks.getD j []).length ≤ 40 from fun h j hj => by
        rcases Nat.lt_or_ge j k with h' | h'
        · exact HJ.out j h'
        · obtain rfl : j = k := by omega
          exact h)
      clear hck
      generalize ks.getD k [] = y at *
      by_cases hbig : 40 < y.length
      · have hbI : (40 : Int) < (y.length : Int) := by omega
        have HN := Lib.hid (HNo.out hbig)
        clear hbig
        go_wp2
        have hfin := HZ3.out.store zeroSp
        have hbf : Below w.heap.size w (stSp w3 w.heap.size zeroSp) := HB3.out.trans (((Keeps.refl (fun j => j < w.heap.size) w3).stSp (.inr (by simp)) _).below HB3.out.size fun j hj => hj)
        have hcv : chkV ws = .tuple #[spV zeroSp, .bool false] := by unfold chkV; rw [HN.out]
        rw [hcv]
        show bodyPost Try.prog Try.f10 _ .ret _ (stSp w3 w.heap.size zeroSp)
        generalize stSp w3 w.heap.size zeroSp = w8 at *
        exact bodyPost_ret (results_cellt rfl rfl (loadVar26 _ _ _ hfin.at)) rfl ⟨rfl, hbf⟩
      · have hbI : (y.length : Int) ≤ 40 := by omega
        have HY := Lib.hid (HYes.out (by omega))
        clear hbig
        go_wp2
        go_round
        case rel => exact ⟨k + 1, by omega, rfl, by go_num, HY⟩
        case measure => simp [intOf]; omega
    · obtain rfl : k = ks.length := by omega
      have hck : Cm.checkS ws = some ⟨[77, 83, 69, 84], least, 0, first, last, step, wb⟩ := by
        rw [HCK.out, if_pos]
        rw [List.all_eq_true]
        intro t ht
        obtain ⟨j, hj, rfl⟩ := List.getElem_of_mem ht
        have := HJ.out j hj
        rw [Cm.getD_eq hj] at this
        simpa using this
      have hcv : chkV ws = .tuple #[spV ⟨[77, 83, 69, 84], least, 0, first, last, step, wb⟩, .bool true] := by unfold chkV; rw [hck]
      have HCV := Lib.hid hcv
      clear hck hcv
      go_wp2
      have hfin := HZ3.out.store ⟨[77, 83, 69, 84], least, 0, first, last, step, wb⟩
      have hbf : Below w.heap.size w (stSp w3 w.heap.size ⟨[77, 83, 69, 84], least, 0, first, last, step, wb⟩) := HB3.out.trans (((Keeps.refl (fun j => j < w.heap.size) w3).stSp (.inr (by simp)) _).below HB3.out.size fun j hj => hj)
      show bodyPost Try.prog Try.f10 _ .ret _ (stSp w3 w.heap.size ⟨[77, 83, 69, 84], least, 0, first, last, step, wb⟩)
      generalize stSp w3 w.heap.size ⟨[77, 83, 69, 84], least, 0, first, last, step, wb⟩ = w8 at *
      exact bodyPost_ret (results_cellt rfl rfl (loadVar26 _ _ _ hfin.at)) rfl ⟨by rw [HCV.out]; rfl, hbf⟩

set_option maxRecDepth 100000 in
set_option maxHeartbeats 4000000 in
theorem refCheck_msetnx (a : Option Addr) (cap : Nat) (ws : List (List UInt8)) (s : Cm.Sp) (w : World) (hW : Wds w a cap ws) (h0 : 0 < ws.length) (h1 : ws.length ≤ 100) (hf : findV (ws.getD 0 []) = .tuple #[spV s, .bool true]) (hok : Cm.Ok s) (hfs : Cm.findS (ws.getD 0 []) = some s) (hcn : Cm.countOk s ws.length = true) (hc1 : s.least ≤ (ws.length : Int)) (hm : s.most = 0) (hnm : s.nm = [77, 83, 69, 84, 78, 88]) (hp : ws.length % 2 = 1) :
    Calls Try.prog 10 #[.slice a ws.length cap] w fun e W' => e = .returned (chkV ws) ∧ Below w.heap.size w W' := by
  have hchk := Cm.check_some (by omega) hfs
  rw [hcn, Bool.true_and] at hchk
  have HCK := Lib.hid hchk
  have hky := fun W (h : Below w.heap.size w W) => refKeysBy_any s a cap ws W (hW.later h) (by omega) hok hc1
  have HKy := Lib.hid hky
  clear hchk hky
  have hx := hW.len (k := 0)
  obtain ⟨b, off, rfl, hb, hc⟩ := first_cell hW h0
  have hfx := fun W => refFind_v hf W hx
  have HX := Lib.hid hfx
  have hz := zero_new w
  have hbz : Below w.heap.size w (w.alloc (.cells (spL zeroSp).toArray 26)) := (Below.refl _ _).alloc (Nat.le_refl _) _
  have HZ := Lib.hid hz
  have HBZ := Lib.hid hbz
  have e0 : ((ws.length : Int) == 0) = false := by rw [beq_eq_false_iff_ne]; omega
  have e1 : (ws.length : Int) ≤ 100 := by omega
  have e2 : (0 : Int) < ws.length := by omega
  clear hfx hf hx hz hbz hW hok hfs hcn
  obtain ⟨nm, least, most, first, last, step, wb⟩ := s
  simp only at *
  subst hm hnm
  generalize ws.getD 0 [] = x at *
  have hpar : ((ws.length : Int) % 2 == 0) = false := by rw [beq_eq_false_iff_ne]; omega
  clear hp
  go_enter Try.func10, Try.ntmps10
  go_upto_region 9 with ((go_at_call 12; refine (HX.out _).mono ?_; rintro e w1 ⟨rfl, hb1⟩; have hz1 : SpBox w1 w.heap.size zeroSp := (Keeps.of_below (S := fun _ => True) hb1 (fun k h _ => by simpa using h)).heap HZ.out trivial; have HZ1 := Lib.hid hz1; have hbw1 : Below w.heap.size w w1 := HBZ.out.trans (hb1.mono (by simp)); have HB1 := Lib.hid hbw1; clear hb1 hz1 hbw1; simp only [spV]))
  obtain ⟨w2, hw2⟩ : ∃ w2, w1.alloc (.cells #[.string ⟨#[77, 83, 69, 84, 78, 88]⟩, .int .i64 least, .int .i64 0, .int .i64 first, .int .i64 last, .int .i64 step, .bool wb] 26) = w2 := ⟨_, rfl⟩
  have hz2 : SpBox w2 w.heap.size zeroSp := by rw [← hw2]; exact ((Keeps.refl (fun _ => True) w1).alloc _).heap HZ1.out trivial
  have hb2 : Below w.heap.size w w2 := by rw [← hw2]; exact HB1.out.alloc HB1.out.size _
  have hs2 : SpBox w2 w1.heap.size ⟨[77, 83, 69, 84, 78, 88], least, 0, first, last, step, wb⟩ := by rw [← hw2]; exact World.alloc_heap_new w1 _
  have hs1 : w.heap.size < w1.heap.size := HZ1.out.lt
  rw [hw2]
  have HZ2 := Lib.hid hz2
  have HB2 := Lib.hid hb2
  have HS2 := Lib.hid hs2
  obtain ⟨c0, c1, c2, c3, c4, c5, c6⟩ := hs2.at
  simp only [Nat.zero_add] at c0 c1 c2 c3 c4 c5 c6
  have hk2 := HKy.out w2 hb2
  have HK2 := Lib.hid hk2
  clear hw2 hz2 hb2 hs2 hk2
  simp only [spV] at HK2
  go_wp2_with (go_at_call 21; refine HK2.out.mono ?_; rintro e w3 ⟨ak, ck, rfl, hwk, hb3⟩; have HB3 := Lib.hid (HB2.out.trans (hb3.mono HB2.out.size)); have hz3 : SpBox w3 w.heap.size zeroSp := (hb3.block _ HZ2.out.lt).trans HZ2.out; have hs3 : SpBox w3 w1.heap.size ⟨[77, 83, 69, 84, 78, 88], least, 0, first, last, step, wb⟩ := (hb3.block _ HS2.out.lt).trans HS2.out; have HZ3 := Lib.hid hz3; have HS3 := Lib.hid hs3; have HWk := Lib.hid hwk; clear hb3 hz3 hs3 hwk c0 c1 c2 c3 c4 c5 c6)
  have hz3 := HZ3.out
  obtain ⟨g0, g1, g2, g3, g4, g5, g6⟩ := hz3.at
  have y0 := hz3.free 0 (by omega)
  have y1 := hz3.free 1 (by omega)
  have y2 := hz3.free 2 (by omega)
  have y3 := hz3.free 3 (by omega)
  have y4 := hz3.free 4 (by omega)
  have y5 := hz3.free 5 (by omega)
  have y6 := hz3.free 6 (by omega)
  simp only [Nat.zero_add, zeroSp] at g0 g1 g2 g3 g4 g5 g6
  obtain ⟨c0, c1, c2, c3, c4, c5, c6⟩ := HS3.out.at
  simp only [Nat.zero_add] at c0 c1 c2 c3 c4 c5 c6
  clear hz3
  have hkb : (Cm.keysS ⟨[77, 83, 69, 84, 78, 88], least, 0, first, last, step, wb⟩ ws).length ≤ 9223372036854775807 := Nat.le_trans HWk.out.1 HWk.out.2.1
  generalize Cm.keysS ⟨[77, 83, 69, 84, 78, 88], least, 0, first, last, step, wb⟩ ws = ks at *
  have hkbI : (ks.length : Int) ≤ 9223372036854775807 := by omega
  go_loop [3, 8] (fun r i => ∃ k : Nat, k ≤ ks.length ∧ r = .bool false ∧ i = .int .i64 k ∧ Hid (∀ j, j < k → (ks.getD j []).length ≤ 40)) (fun _ i => ks.length - (intOf i).toNat)
  case atStart => exact ⟨0, Nat.zero_le _, rfl, rfl, Lib.hid fun j h => by omega⟩
  case round =>
    obtain ⟨k, hk, rfl, rfl, HJ⟩ := hrel
    by_cases hlt : k < ks.length
    · have k0 : (0 : Int) ≤ (k : Int) := by omega
      have k1 : (k : Int) < (ks.length : Int) := by omega
      obtain ⟨bk, ok, rfl, hbk, hck⟩ := HWk.out.get (by omega)
      have q1 := hck k hlt
      have hxl := HWk.out.len (k := k)
      have HNo := Lib.hid (show 40 < (ks.getD k []).length → Cm.checkS ws = none from fun h => by
        rw [HCK.out, if_neg]
        rw [List.all_eq_true]
        intro hall
        have := hall (ks.getD k []) (by rw [Cm.getD_eq hlt]; exact List.getElem_mem hlt)
        simp at this
        simp at h
        omega)
      have HYes := Lib.hid (show (ks.getD k []).length ≤ 40 → ∀ j, j < k + 1 → (ks.getD j []).length ≤ 40 from fun h j hj => by
        rcases Nat.lt_or_ge j k with h' | h'
        · exact HJ.out j h'
        · obtain rfl : j = k := by omega
          exact h)
      clear hck
      generalize ks.getD k [] = y at *
      by_cases hbig : 40 < y.length
      · have hbI : (40 : Int) < (y.length : Int) := by omega
        have HN := Lib.hid (HNo.out hbig)
        clear hbig
        go_wp2
        have hfin := HZ3.out.store zeroSp
        have hbf : Below w.heap.size w (stSp w3 w.heap.size zeroSp) := HB3.out.trans (((Keeps.refl (fun j => j < w.heap.size) w3).stSp (.inr (by simp)) _).below HB3.out.size fun j hj => hj)
        have hcv : chkV ws = .tuple #[spV zeroSp, .bool false] := by unfold chkV; rw [HN.out]
        rw [hcv]
        show bodyPost Try.prog Try.f10 _ .ret _ (stSp w3 w.heap.size zeroSp)
        generalize stSp w3 w.heap.size zeroSp = w8 at *
        exact bodyPost_ret (results_cellt rfl rfl (loadVar26 _ _ _ hfin.at)) rfl ⟨rfl, hbf⟩
      · have hbI : (y.length : Int) ≤ 40 := by omega
        have HY := Lib.hid (HYes.out (by omega))
        clear hbig
        go_wp2
        go_round
        case rel => exact ⟨k + 1, by omega, rfl, by go_num, HY⟩
        case measure => simp [intOf]; omega
    · obtain rfl : k = ks.length := by omega
      have hck : Cm.checkS ws = some ⟨[77, 83, 69, 84, 78, 88], least, 0, first, last, step, wb⟩ := by
        rw [HCK.out, if_pos]
        rw [List.all_eq_true]
        intro t ht
        obtain ⟨j, hj, rfl⟩ := List.getElem_of_mem ht
        have := HJ.out j hj
        rw [Cm.getD_eq hj] at this
        simpa using this
      have hcv : chkV ws = .tuple #[spV ⟨[77, 83, 69, 84, 78, 88], least, 0, first, last, step, wb⟩, .bool true] := by unfold chkV; rw [hck]
      have HCV := Lib.hid hcv
      clear hck hcv
      go_wp2
      have hfin := HZ3.out.store ⟨[77, 83, 69, 84, 78, 88], least, 0, first, last, step, wb⟩
      have hbf : Below w.heap.size w (stSp w3 w.heap.size ⟨[77, 83, 69, 84, 78, 88], least, 0, first, last, step, wb⟩) := HB3.out.trans (((Keeps.refl (fun j => j < w.heap.size) w3).stSp (.inr (by simp)) _).below HB3.out.size fun j hj => hj)
      show bodyPost Try.prog Try.f10 _ .ret _ (stSp w3 w.heap.size ⟨[77, 83, 69, 84, 78, 88], least, 0, first, last, step, wb⟩)
      generalize stSp w3 w.heap.size ⟨[77, 83, 69, 84, 78, 88], least, 0, first, last, step, wb⟩ = w8 at *
      exact bodyPost_ret (results_cellt rfl rfl (loadVar26 _ _ _ hfin.at)) rfl ⟨by rw [HCV.out]; rfl, hbf⟩

set_option maxRecDepth 100000 in
set_option maxHeartbeats 4000000 in
theorem refCheck_hset (a : Option Addr) (cap : Nat) (ws : List (List UInt8)) (s : Cm.Sp) (w : World) (hW : Wds w a cap ws) (h0 : 0 < ws.length) (h1 : ws.length ≤ 100) (hf : findV (ws.getD 0 []) = .tuple #[spV s, .bool true]) (hok : Cm.Ok s) (hfs : Cm.findS (ws.getD 0 []) = some s) (hcn : Cm.countOk s ws.length = true) (hc1 : s.least ≤ (ws.length : Int)) (hm : s.most = 0) (hnm : s.nm = [72, 83, 69, 84]) (hp : ws.length % 2 = 0) :
    Calls Try.prog 10 #[.slice a ws.length cap] w fun e W' => e = .returned (chkV ws) ∧ Below w.heap.size w W' := by
  have hchk := Cm.check_some (by omega) hfs
  rw [hcn, Bool.true_and] at hchk
  have HCK := Lib.hid hchk
  have hky := fun W (h : Below w.heap.size w W) => refKeysBy_any s a cap ws W (hW.later h) (by omega) hok hc1
  have HKy := Lib.hid hky
  clear hchk hky
  have hx := hW.len (k := 0)
  obtain ⟨b, off, rfl, hb, hc⟩ := first_cell hW h0
  have hfx := fun W => refFind_v hf W hx
  have HX := Lib.hid hfx
  have hz := zero_new w
  have hbz : Below w.heap.size w (w.alloc (.cells (spL zeroSp).toArray 26)) := (Below.refl _ _).alloc (Nat.le_refl _) _
  have HZ := Lib.hid hz
  have HBZ := Lib.hid hbz
  have e0 : ((ws.length : Int) == 0) = false := by rw [beq_eq_false_iff_ne]; omega
  have e1 : (ws.length : Int) ≤ 100 := by omega
  have e2 : (0 : Int) < ws.length := by omega
  clear hfx hf hx hz hbz hW hok hfs hcn
  obtain ⟨nm, least, most, first, last, step, wb⟩ := s
  simp only at *
  subst hm hnm
  generalize ws.getD 0 [] = x at *
  have hpar : ((ws.length : Int) % 2 == 0) = true := by rw [beq_iff_eq]; omega
  clear hp
  go_enter Try.func10, Try.ntmps10
  go_upto_region 9 with ((go_at_call 12; refine (HX.out _).mono ?_; rintro e w1 ⟨rfl, hb1⟩; have hz1 : SpBox w1 w.heap.size zeroSp := (Keeps.of_below (S := fun _ => True) hb1 (fun k h _ => by simpa using h)).heap HZ.out trivial; have HZ1 := Lib.hid hz1; have hbw1 : Below w.heap.size w w1 := HBZ.out.trans (hb1.mono (by simp)); have HB1 := Lib.hid hbw1; clear hb1 hz1 hbw1; simp only [spV]))
  obtain ⟨w2, hw2⟩ : ∃ w2, w1.alloc (.cells #[.string ⟨#[72, 83, 69, 84]⟩, .int .i64 least, .int .i64 0, .int .i64 first, .int .i64 last, .int .i64 step, .bool wb] 26) = w2 := ⟨_, rfl⟩
  have hz2 : SpBox w2 w.heap.size zeroSp := by rw [← hw2]; exact ((Keeps.refl (fun _ => True) w1).alloc _).heap HZ1.out trivial
  have hb2 : Below w.heap.size w w2 := by rw [← hw2]; exact HB1.out.alloc HB1.out.size _
  have hs2 : SpBox w2 w1.heap.size ⟨[72, 83, 69, 84], least, 0, first, last, step, wb⟩ := by rw [← hw2]; exact World.alloc_heap_new w1 _
  have hs1 : w.heap.size < w1.heap.size := HZ1.out.lt
  rw [hw2]
  have HZ2 := Lib.hid hz2
  have HB2 := Lib.hid hb2
  have HS2 := Lib.hid hs2
  obtain ⟨c0, c1, c2, c3, c4, c5, c6⟩ := hs2.at
  simp only [Nat.zero_add] at c0 c1 c2 c3 c4 c5 c6
  have hk2 := HKy.out w2 hb2
  have HK2 := Lib.hid hk2
  clear hw2 hz2 hb2 hs2 hk2
  simp only [spV] at HK2
  go_wp2_with (go_at_call 21; refine HK2.out.mono ?_; rintro e w3 ⟨ak, ck, rfl, hwk, hb3⟩; have HB3 := Lib.hid (HB2.out.trans (hb3.mono HB2.out.size)); have hz3 : SpBox w3 w.heap.size zeroSp := (hb3.block _ HZ2.out.lt).trans HZ2.out; have hs3 : SpBox w3 w1.heap.size ⟨[72, 83, 69, 84], least, 0, first, last, step, wb⟩ := (hb3.block _ HS2.out.lt).trans HS2.out; have HZ3 := Lib.hid hz3; have HS3 := Lib.hid hs3; have HWk := Lib.hid hwk; clear hb3 hz3 hs3 hwk c0 c1 c2 c3 c4 c5 c6)
  have hz3 := HZ3.out
  obtain ⟨g0, g1, g2, g3, g4, g5, g6⟩ := hz3.at
  have y0 := hz3.free 0 (by omega)
  have y1 := hz3.free 1 (by omega)
  have y2 := hz3.free 2 (by omega)
  have y3 := hz3.free 3 (by omega)
  have y4 := hz3.free 4 (by omega)
  have y5 := hz3.free 5 (by omega)
  have y6 := hz3.free 6 (by omega)
  simp only [Nat.zero_add, zeroSp] at g0 g1 g2 g3 g4 g5 g6
  obtain ⟨c0, c1, c2, c3, c4, c5, c6⟩ := HS3.out.at
  simp only [Nat.zero_add] at c0 c1 c2 c3 c4 c5 c6
  clear hz3
  have hkb : (Cm.keysS ⟨[72, 83, 69, 84], least, 0, first, last, step, wb⟩ ws).length ≤ 9223372036854775807 := Nat.le_trans HWk.out.1 HWk.out.2.1
  generalize Cm.keysS ⟨[72, 83, 69, 84], least, 0, first, last, step, wb⟩ ws = ks at *
  have hkbI : (ks.length : Int) ≤ 9223372036854775807 := by omega
  go_loop [3, 8] (fun r i => ∃ k : Nat, k ≤ ks.length ∧ r = .bool false ∧ i = .int .i64 k ∧ Hid (∀ j, j < k → (ks.getD j []).length ≤ 40)) (fun _ i => ks.length - (intOf i).toNat)
  case atStart => exact ⟨0, Nat.zero_le _, rfl, rfl, Lib.hid fun j h => by omega⟩
  case round =>
    obtain ⟨k, hk, rfl, rfl, HJ⟩ := hrel
    by_cases hlt : k < ks.length
    · have k0 : (0 : Int) ≤ (k : Int) := by omega
      have k1 : (k : Int) < (ks.length : Int) := by omega
      obtain ⟨bk, ok, rfl, hbk, hck⟩ := HWk.out.get (by omega)
      have q1 := hck k hlt
      have hxl := HWk.out.len (k := k)
      have HNo := Lib.hid (show 40 < (ks.getD k []).length → Cm.checkS ws = none from fun h => by
        rw [HCK.out, if_neg]
        rw [List.all_eq_true]
        intro hall
        have := hall (ks.getD k []) (by rw [Cm.getD_eq hlt]; exact List.getElem_mem hlt)
        simp at this
        simp at h
        omega)
      have HYes := Lib.hid (show (ks.getD k []).length ≤ 40 → ∀ j, j < k + 1 → (ks.getD j []).length ≤ 40 from fun h j hj => by
        rcases Nat.lt_or_ge j k with h' | h'
        · exact HJ.out j h'
        · obtain rfl : j = k := by omega
          exact h)
      clear hck
      generalize ks.getD k [] = y at *
      by_cases hbig : 40 < y.length
      · have hbI : (40 : Int) < (y.length : Int) := by omega
        have HN := Lib.hid (HNo.out hbig)
        clear hbig
        go_wp2
        have hfin := HZ3.out.store zeroSp
        have hbf : Below w.heap.size w (stSp w3 w.heap.size zeroSp) := HB3.out.trans (((Keeps.refl (fun j => j < w.heap.size) w3).stSp (.inr (by simp)) _).below HB3.out.size fun j hj => hj)
        have hcv : chkV ws = .tuple #[spV zeroSp, .bool false] := by unfold chkV; rw [HN.out]
        rw [hcv]
        show bodyPost Try.prog Try.f10 _ .ret _ (stSp w3 w.heap.size zeroSp)
        generalize stSp w3 w.heap.size zeroSp = w8 at *
        exact bodyPost_ret (results_cellt rfl rfl (loadVar26 _ _ _ hfin.at)) rfl ⟨rfl, hbf⟩
      · have hbI : (y.length : Int) ≤ 40 := by omega
        have HY := Lib.hid (HYes.out (by omega))
        clear hbig
        go_wp2
        go_round
        case rel => exact ⟨k + 1, by omega, rfl, by go_num, HY⟩
        case measure => simp [intOf]; omega
    · obtain rfl : k = ks.length := by omega
      have hck : Cm.checkS ws = some ⟨[72, 83, 69, 84], least, 0, first, last, step, wb⟩ := by
        rw [HCK.out, if_pos]
        rw [List.all_eq_true]
        intro t ht
        obtain ⟨j, hj, rfl⟩ := List.getElem_of_mem ht
        have := HJ.out j hj
        rw [Cm.getD_eq hj] at this
        simpa using this
      have hcv : chkV ws = .tuple #[spV ⟨[72, 83, 69, 84], least, 0, first, last, step, wb⟩, .bool true] := by unfold chkV; rw [hck]
      have HCV := Lib.hid hcv
      clear hck hcv
      go_wp2
      have hfin := HZ3.out.store ⟨[72, 83, 69, 84], least, 0, first, last, step, wb⟩
      have hbf : Below w.heap.size w (stSp w3 w.heap.size ⟨[72, 83, 69, 84], least, 0, first, last, step, wb⟩) := HB3.out.trans (((Keeps.refl (fun j => j < w.heap.size) w3).stSp (.inr (by simp)) _).below HB3.out.size fun j hj => hj)
      show bodyPost Try.prog Try.f10 _ .ret _ (stSp w3 w.heap.size ⟨[72, 83, 69, 84], least, 0, first, last, step, wb⟩)
      generalize stSp w3 w.heap.size ⟨[72, 83, 69, 84], least, 0, first, last, step, wb⟩ = w8 at *
      exact bodyPost_ret (results_cellt rfl rfl (loadVar26 _ _ _ hfin.at)) rfl ⟨by rw [HCV.out]; rfl, hbf⟩

set_option maxRecDepth 100000 in
set_option maxHeartbeats 4000000 in
theorem refCheck_free (a : Option Addr) (cap : Nat) (ws : List (List UInt8)) (s : Cm.Sp) (w : World) (hW : Wds w a cap ws) (h0 : 0 < ws.length) (h1 : ws.length ≤ 100) (hf : findV (ws.getD 0 []) = .tuple #[spV s, .bool true]) (hok : Cm.Ok s) (hfs : Cm.findS (ws.getD 0 []) = some s) (hcn : Cm.countOk s ws.length = true) (hc1 : s.least ≤ (ws.length : Int)) (hn1 : s.nm ≠ [77, 83, 69, 84]) (hn2 : s.nm ≠ [77, 83, 69, 84, 78, 88]) (hn3 : s.nm ≠ [72, 83, 69, 84]) (hm : s.most ≤ 0) :
    Calls Try.prog 10 #[.slice a ws.length cap] w fun e W' => e = .returned (chkV ws) ∧ Below w.heap.size w W' := by
  have hchk := Cm.check_some (by omega) hfs
  rw [hcn, Bool.true_and] at hchk
  have HCK := Lib.hid hchk
  have hky := fun W (h : Below w.heap.size w W) => refKeysBy_any s a cap ws W (hW.later h) (by omega) hok hc1
  have HKy := Lib.hid hky
  clear hchk hky
  have hx := hW.len (k := 0)
  obtain ⟨b, off, rfl, hb, hc⟩ := first_cell hW h0
  have hfx := fun W => refFind_v hf W hx
  have HX := Lib.hid hfx
  have hz := zero_new w
  have hbz : Below w.heap.size w (w.alloc (.cells (spL zeroSp).toArray 26)) := (Below.refl _ _).alloc (Nat.le_refl _) _
  have HZ := Lib.hid hz
  have HBZ := Lib.hid hbz
  have e0 : ((ws.length : Int) == 0) = false := by rw [beq_eq_false_iff_ne]; omega
  have e1 : (ws.length : Int) ≤ 100 := by omega
  have e2 : (0 : Int) < ws.length := by omega
  clear hfx hf hx hz hbz hW hok hfs hcn
  obtain ⟨nm, least, most, first, last, step, wb⟩ := s
  simp only at *
  have q1 : (nm == [77, 83, 69, 84]) = false := by simpa using hn1
  have q2 : (nm == [77, 83, 69, 84, 78, 88]) = false := by simpa using hn2
  have q3 : (nm == [72, 83, 69, 84]) = false := by simpa using hn3
  clear hn1 hn2 hn3
  generalize ws.getD 0 [] = x at *
  go_enter Try.func10, Try.ntmps10
  go_upto_region 9 with ((go_at_call 12; refine (HX.out _).mono ?_; rintro e w1 ⟨rfl, hb1⟩; have hz1 : SpBox w1 w.heap.size zeroSp := (Keeps.of_below (S := fun _ => True) hb1 (fun k h _ => by simpa using h)).heap HZ.out trivial; have HZ1 := Lib.hid hz1; have hbw1 : Below w.heap.size w w1 := HBZ.out.trans (hb1.mono (by simp)); have HB1 := Lib.hid hbw1; clear hb1 hz1 hbw1; simp only [spV]))
  obtain ⟨w2, hw2⟩ : ∃ w2, w1.alloc (.cells #[.string ⟨nm.toArray⟩, .int .i64 least, .int .i64 most, .int .i64 first, .int .i64 last, .int .i64 step, .bool wb] 26) = w2 := ⟨_, rfl⟩
  have hz2 : SpBox w2 w.heap.size zeroSp := by rw [← hw2]; exact ((Keeps.refl (fun _ => True) w1).alloc _).heap HZ1.out trivial
  have hb2 : Below w.heap.size w w2 := by rw [← hw2]; exact HB1.out.alloc HB1.out.size _
  have hs2 : SpBox w2 w1.heap.size ⟨nm, least, most, first, last, step, wb⟩ := by rw [← hw2]; exact World.alloc_heap_new w1 _
  have hs1 : w.heap.size < w1.heap.size := HZ1.out.lt
  rw [hw2]
  have HZ2 := Lib.hid hz2
  have HB2 := Lib.hid hb2
  have HS2 := Lib.hid hs2
  obtain ⟨c0, c1, c2, c3, c4, c5, c6⟩ := hs2.at
  simp only [Nat.zero_add] at c0 c1 c2 c3 c4 c5 c6
  have hk2 := HKy.out w2 hb2
  have HK2 := Lib.hid hk2
  clear hw2 hz2 hb2 hs2 hk2
  simp only [spV] at HK2
  go_wp2_with (go_at_call 21; refine HK2.out.mono ?_; rintro e w3 ⟨ak, ck, rfl, hwk, hb3⟩; have HB3 := Lib.hid (HB2.out.trans (hb3.mono HB2.out.size)); have hz3 : SpBox w3 w.heap.size zeroSp := (hb3.block _ HZ2.out.lt).trans HZ2.out; have hs3 : SpBox w3 w1.heap.size ⟨nm, least, most, first, last, step, wb⟩ := (hb3.block _ HS2.out.lt).trans HS2.out; have HZ3 := Lib.hid hz3; have HS3 := Lib.hid hs3; have HWk := Lib.hid hwk; clear hb3 hz3 hs3 hwk c0 c1 c2 c3 c4 c5 c6)
  have hz3 := HZ3.out
  obtain ⟨g0, g1, g2, g3, g4, g5, g6⟩ := hz3.at
  have y0 := hz3.free 0 (by omega)
  have y1 := hz3.free 1 (by omega)
  have y2 := hz3.free 2 (by omega)
  have y3 := hz3.free 3 (by omega)
  have y4 := hz3.free 4 (by omega)
  have y5 := hz3.free 5 (by omega)
  have y6 := hz3.free 6 (by omega)
  simp only [Nat.zero_add, zeroSp] at g0 g1 g2 g3 g4 g5 g6
  obtain ⟨c0, c1, c2, c3, c4, c5, c6⟩ := HS3.out.at
  simp only [Nat.zero_add] at c0 c1 c2 c3 c4 c5 c6
  clear hz3
  have hkb : (Cm.keysS ⟨nm, least, most, first, last, step, wb⟩ ws).length ≤ 9223372036854775807 := Nat.le_trans HWk.out.1 HWk.out.2.1
  generalize Cm.keysS ⟨nm, least, most, first, last, step, wb⟩ ws = ks at *
  have hkbI : (ks.length : Int) ≤ 9223372036854775807 := by omega
  go_loop [3, 8] (fun r i => ∃ k : Nat, k ≤ ks.length ∧ r = .bool false ∧ i = .int .i64 k ∧ Hid (∀ j, j < k → (ks.getD j []).length ≤ 40)) (fun _ i => ks.length - (intOf i).toNat)
  case atStart => exact ⟨0, Nat.zero_le _, rfl, rfl, Lib.hid fun j h => by omega⟩
  case round =>
    obtain ⟨k, hk, rfl, rfl, HJ⟩ := hrel
    by_cases hlt : k < ks.length
    · have k0 : (0 : Int) ≤ (k : Int) := by omega
      have k1 : (k : Int) < (ks.length : Int) := by omega
      obtain ⟨bk, ok, rfl, hbk, hck⟩ := HWk.out.get (by omega)
      have q1 := hck k hlt
      have hxl := HWk.out.len (k := k)
      have HNo := Lib.hid (show 40 < (ks.getD k []).length → Cm.checkS ws = none from fun h => by
        rw [HCK.out, if_neg]
        rw [List.all_eq_true]
        intro hall
        have := hall (ks.getD k []) (by rw [Cm.getD_eq hlt]; exact List.getElem_mem hlt)
        simp at this
        simp at h
        omega)
      have HYes := Lib.hid (show (ks.getD k []).length ≤ 40 → ∀ j, j < k + 1 → (ks.getD j []).length ≤ 40 from fun h j hj => by
        rcases Nat.lt_or_ge j k with h' | h'
        · exact HJ.out j h'
        · obtain rfl : j = k := by omega
          exact h)
      clear hck
      generalize ks.getD k [] = y at *
      by_cases hbig : 40 < y.length
      · have hbI : (40 : Int) < (y.length : Int) := by omega
        have HN := Lib.hid (HNo.out hbig)
        clear hbig
        go_wp2
        have hfin := HZ3.out.store zeroSp
        have hbf : Below w.heap.size w (stSp w3 w.heap.size zeroSp) := HB3.out.trans (((Keeps.refl (fun j => j < w.heap.size) w3).stSp (.inr (by simp)) _).below HB3.out.size fun j hj => hj)
        have hcv : chkV ws = .tuple #[spV zeroSp, .bool false] := by unfold chkV; rw [HN.out]
        rw [hcv]
        show bodyPost Try.prog Try.f10 _ .ret _ (stSp w3 w.heap.size zeroSp)
        generalize stSp w3 w.heap.size zeroSp = w8 at *
        exact bodyPost_ret (results_cellt rfl rfl (loadVar26 _ _ _ hfin.at)) rfl ⟨rfl, hbf⟩
      · have hbI : (y.length : Int) ≤ 40 := by omega
        have HY := Lib.hid (HYes.out (by omega))
        clear hbig
        go_wp2
        go_round
        case rel => exact ⟨k + 1, by omega, rfl, by go_num, HY⟩
        case measure => simp [intOf]; omega
    · obtain rfl : k = ks.length := by omega
      have hck : Cm.checkS ws = some ⟨nm, least, most, first, last, step, wb⟩ := by
        rw [HCK.out, if_pos]
        rw [List.all_eq_true]
        intro t ht
        obtain ⟨j, hj, rfl⟩ := List.getElem_of_mem ht
        have := HJ.out j hj
        rw [Cm.getD_eq hj] at this
        simpa using this
      have hcv : chkV ws = .tuple #[spV ⟨nm, least, most, first, last, step, wb⟩, .bool true] := by unfold chkV; rw [hck]
      have HCV := Lib.hid hcv
      clear hck hcv
      go_wp2
      have hfin := HZ3.out.store ⟨nm, least, most, first, last, step, wb⟩
      have hbf : Below w.heap.size w (stSp w3 w.heap.size ⟨nm, least, most, first, last, step, wb⟩) := HB3.out.trans (((Keeps.refl (fun j => j < w.heap.size) w3).stSp (.inr (by simp)) _).below HB3.out.size fun j hj => hj)
      show bodyPost Try.prog Try.f10 _ .ret _ (stSp w3 w.heap.size ⟨nm, least, most, first, last, step, wb⟩)
      generalize stSp w3 w.heap.size ⟨nm, least, most, first, last, step, wb⟩ = w8 at *
      exact bodyPost_ret (results_cellt rfl rfl (loadVar26 _ _ _ hfin.at)) rfl ⟨by rw [HCV.out]; rfl, hbf⟩

set_option maxRecDepth 100000 in
set_option maxHeartbeats 4000000 in
theorem refCheck_some (a : Option Addr) (cap : Nat) (ws : List (List UInt8)) (s : Cm.Sp) (w : World) (hW : Wds w a cap ws) (h0 : 0 < ws.length) (h1 : ws.length ≤ 100) (hf : findV (ws.getD 0 []) = .tuple #[spV s, .bool true]) (hok : Cm.Ok s) (hfs : Cm.findS (ws.getD 0 []) = some s) (hcn : Cm.countOk s ws.length = true) (hc1 : s.least ≤ (ws.length : Int)) (hn1 : s.nm ≠ [77, 83, 69, 84]) (hn2 : s.nm ≠ [77, 83, 69, 84, 78, 88]) (hn3 : s.nm ≠ [72, 83, 69, 84]) (hm : 0 < s.most) (hm2 : (ws.length : Int) ≤ s.most) :
    Calls Try.prog 10 #[.slice a ws.length cap] w fun e W' => e = .returned (chkV ws) ∧ Below w.heap.size w W' := by
  have hchk := Cm.check_some (by omega) hfs
  rw [hcn, Bool.true_and] at hchk
  have HCK := Lib.hid hchk
  have hky := fun W (h : Below w.heap.size w W) => refKeysBy_any s a cap ws W (hW.later h) (by omega) hok hc1
  have HKy := Lib.hid hky
  clear hchk hky
  have hx := hW.len (k := 0)
  obtain ⟨b, off, rfl, hb, hc⟩ := first_cell hW h0
  have hfx := fun W => refFind_v hf W hx
  have HX := Lib.hid hfx
  have hz := zero_new w
  have hbz : Below w.heap.size w (w.alloc (.cells (spL zeroSp).toArray 26)) := (Below.refl _ _).alloc (Nat.le_refl _) _
  have HZ := Lib.hid hz
  have HBZ := Lib.hid hbz
  have e0 : ((ws.length : Int) == 0) = false := by rw [beq_eq_false_iff_ne]; omega
  have e1 : (ws.length : Int) ≤ 100 := by omega
  have e2 : (0 : Int) < ws.length := by omega
  clear hfx hf hx hz hbz hW hok hfs hcn
  obtain ⟨nm, least, most, first, last, step, wb⟩ := s
  simp only at *
  have q1 : (nm == [77, 83, 69, 84]) = false := by simpa using hn1
  have q2 : (nm == [77, 83, 69, 84, 78, 88]) = false := by simpa using hn2
  have q3 : (nm == [72, 83, 69, 84]) = false := by simpa using hn3
  clear hn1 hn2 hn3
  generalize ws.getD 0 [] = x at *
  go_enter Try.func10, Try.ntmps10
  go_upto_region 9 with ((go_at_call 12; refine (HX.out _).mono ?_; rintro e w1 ⟨rfl, hb1⟩; have hz1 : SpBox w1 w.heap.size zeroSp := (Keeps.of_below (S := fun _ => True) hb1 (fun k h _ => by simpa using h)).heap HZ.out trivial; have HZ1 := Lib.hid hz1; have hbw1 : Below w.heap.size w w1 := HBZ.out.trans (hb1.mono (by simp)); have HB1 := Lib.hid hbw1; clear hb1 hz1 hbw1; simp only [spV]))
  obtain ⟨w2, hw2⟩ : ∃ w2, w1.alloc (.cells #[.string ⟨nm.toArray⟩, .int .i64 least, .int .i64 most, .int .i64 first, .int .i64 last, .int .i64 step, .bool wb] 26) = w2 := ⟨_, rfl⟩
  have hz2 : SpBox w2 w.heap.size zeroSp := by rw [← hw2]; exact ((Keeps.refl (fun _ => True) w1).alloc _).heap HZ1.out trivial
  have hb2 : Below w.heap.size w w2 := by rw [← hw2]; exact HB1.out.alloc HB1.out.size _
  have hs2 : SpBox w2 w1.heap.size ⟨nm, least, most, first, last, step, wb⟩ := by rw [← hw2]; exact World.alloc_heap_new w1 _
  have hs1 : w.heap.size < w1.heap.size := HZ1.out.lt
  rw [hw2]
  have HZ2 := Lib.hid hz2
  have HB2 := Lib.hid hb2
  have HS2 := Lib.hid hs2
  obtain ⟨c0, c1, c2, c3, c4, c5, c6⟩ := hs2.at
  simp only [Nat.zero_add] at c0 c1 c2 c3 c4 c5 c6
  have hk2 := HKy.out w2 hb2
  have HK2 := Lib.hid hk2
  clear hw2 hz2 hb2 hs2 hk2
  simp only [spV] at HK2
  go_wp2_with (go_at_call 21; refine HK2.out.mono ?_; rintro e w3 ⟨ak, ck, rfl, hwk, hb3⟩; have HB3 := Lib.hid (HB2.out.trans (hb3.mono HB2.out.size)); have hz3 : SpBox w3 w.heap.size zeroSp := (hb3.block _ HZ2.out.lt).trans HZ2.out; have hs3 : SpBox w3 w1.heap.size ⟨nm, least, most, first, last, step, wb⟩ := (hb3.block _ HS2.out.lt).trans HS2.out; have HZ3 := Lib.hid hz3; have HS3 := Lib.hid hs3; have HWk := Lib.hid hwk; clear hb3 hz3 hs3 hwk c0 c1 c2 c3 c4 c5 c6)
  have hz3 := HZ3.out
  obtain ⟨g0, g1, g2, g3, g4, g5, g6⟩ := hz3.at
  have y0 := hz3.free 0 (by omega)
  have y1 := hz3.free 1 (by omega)
  have y2 := hz3.free 2 (by omega)
  have y3 := hz3.free 3 (by omega)
  have y4 := hz3.free 4 (by omega)
  have y5 := hz3.free 5 (by omega)
  have y6 := hz3.free 6 (by omega)
  simp only [Nat.zero_add, zeroSp] at g0 g1 g2 g3 g4 g5 g6
  obtain ⟨c0, c1, c2, c3, c4, c5, c6⟩ := HS3.out.at
  simp only [Nat.zero_add] at c0 c1 c2 c3 c4 c5 c6
  clear hz3
  have hkb : (Cm.keysS ⟨nm, least, most, first, last, step, wb⟩ ws).length ≤ 9223372036854775807 := Nat.le_trans HWk.out.1 HWk.out.2.1
  generalize Cm.keysS ⟨nm, least, most, first, last, step, wb⟩ ws = ks at *
  have hkbI : (ks.length : Int) ≤ 9223372036854775807 := by omega
  go_loop [3, 8] (fun r i => ∃ k : Nat, k ≤ ks.length ∧ r = .bool false ∧ i = .int .i64 k ∧ Hid (∀ j, j < k → (ks.getD j []).length ≤ 40)) (fun _ i => ks.length - (intOf i).toNat)
  case atStart => exact ⟨0, Nat.zero_le _, rfl, rfl, Lib.hid fun j h => by omega⟩
  case round =>
    obtain ⟨k, hk, rfl, rfl, HJ⟩ := hrel
    by_cases hlt : k < ks.length
    · have k0 : (0 : Int) ≤ (k : Int) := by omega
      have k1 : (k : Int) < (ks.length : Int) := by omega
      obtain ⟨bk, ok, rfl, hbk, hck⟩ := HWk.out.get (by omega)
      have q1 := hck k hlt
      have hxl := HWk.out.len (k := k)
      have HNo := Lib.hid (show 40 < (ks.getD k []).length → Cm.checkS ws = none from fun h => by
        rw [HCK.out, if_neg]
        rw [List.all_eq_true]
        intro hall
        have := hall (ks.getD k []) (by rw [Cm.getD_eq hlt]; exact List.getElem_mem hlt)
        simp at this
        simp at h
        omega)
      have HYes := Lib.hid (show (ks.getD k []).length ≤ 40 → ∀ j, j < k + 1 → (ks.getD j []).length ≤ 40 from fun h j hj => by
        rcases Nat.lt_or_ge j k with h' | h'
        · exact HJ.out j h'
        · obtain rfl : j = k := by omega
          exact h)
      clear hck
      generalize ks.getD k [] = y at *
      by_cases hbig : 40 < y.length
      · have hbI : (40 : Int) < (y.length : Int) := by omega
        have HN := Lib.hid (HNo.out hbig)
        clear hbig
        go_wp2
        have hfin := HZ3.out.store zeroSp
        have hbf : Below w.heap.size w (stSp w3 w.heap.size zeroSp) := HB3.out.trans (((Keeps.refl (fun j => j < w.heap.size) w3).stSp (.inr (by simp)) _).below HB3.out.size fun j hj => hj)
        have hcv : chkV ws = .tuple #[spV zeroSp, .bool false] := by unfold chkV; rw [HN.out]
        rw [hcv]
        show bodyPost Try.prog Try.f10 _ .ret _ (stSp w3 w.heap.size zeroSp)
        generalize stSp w3 w.heap.size zeroSp = w8 at *
        exact bodyPost_ret (results_cellt rfl rfl (loadVar26 _ _ _ hfin.at)) rfl ⟨rfl, hbf⟩
      · have hbI : (y.length : Int) ≤ 40 := by omega
        have HY := Lib.hid (HYes.out (by omega))
        clear hbig
        go_wp2
        go_round
        case rel => exact ⟨k + 1, by omega, rfl, by go_num, HY⟩
        case measure => simp [intOf]; omega
    · obtain rfl : k = ks.length := by omega
      have hck : Cm.checkS ws = some ⟨nm, least, most, first, last, step, wb⟩ := by
        rw [HCK.out, if_pos]
        rw [List.all_eq_true]
        intro t ht
        obtain ⟨j, hj, rfl⟩ := List.getElem_of_mem ht
        have := HJ.out j hj
        rw [Cm.getD_eq hj] at this
        simpa using this
      have hcv : chkV ws = .tuple #[spV ⟨nm, least, most, first, last, step, wb⟩, .bool true] := by unfold chkV; rw [hck]
      have HCV := Lib.hid hcv
      clear hck hcv
      go_wp2
      have hfin := HZ3.out.store ⟨nm, least, most, first, last, step, wb⟩
      have hbf : Below w.heap.size w (stSp w3 w.heap.size ⟨nm, least, most, first, last, step, wb⟩) := HB3.out.trans (((Keeps.refl (fun j => j < w.heap.size) w3).stSp (.inr (by simp)) _).below HB3.out.size fun j hj => hj)
      show bodyPost Try.prog Try.f10 _ .ret _ (stSp w3 w.heap.size ⟨nm, least, most, first, last, step, wb⟩)
      generalize stSp w3 w.heap.size ⟨nm, least, most, first, last, step, wb⟩ = w8 at *
      exact bodyPost_ret (results_cellt rfl rfl (loadVar26 _ _ _ hfin.at)) rfl ⟨by rw [HCV.out]; rfl, hbf⟩

theorem refCheck_any (a : Option Addr) (cap : Nat) (ws : List (List UInt8)) (w : World) (hW : Wds w a cap ws) : Calls Try.prog 10 #[.slice a ws.length cap] w fun e W' => e = .returned (chkV ws) ∧ Below w.heap.size w W' := by
  have hn : ws.length ≤ 9223372036854775807 := Nat.le_trans hW.1 hW.2.1
  by_cases h : ws.length = 0 ∨ 100 < ws.length
  · have e : chkV ws = .tuple #[spV zeroSp, .bool false] := by unfold chkV; rw [Cm.check_size h]
    rw [e]
    exact refCheck_size a cap ws.length w hn h
  · have h0 : 0 < ws.length := by omega
    have h1 : ws.length ≤ 100 := by omega
    cases hf : Cm.findS (ws.getD 0 []) with
    | none =>
      have e : chkV ws = .tuple #[spV zeroSp, .bool false] := by unfold chkV; rw [Cm.check_find hf]
      rw [e]
      exact refCheck_none a cap ws w hW h0 h1 (by unfold findV; rw [hf])
    | some s =>
      have hfv : findV (ws.getD 0 []) = .tuple #[spV s, .bool true] := by unfold findV; rw [hf]
      have hok := Cm.findS_ok hf
      have hmem := List.mem_of_find?_eq_some hf
      have hno : Cm.countOk s ws.length = false → chkV ws = .tuple #[spV zeroSp, .bool false] := fun hc => by unfold chkV; rw [Cm.check_some h hf, hc]; rfl
      by_cases hl : (ws.length : Int) < s.least
      · rw [hno (Cm.countOk_few hl)]
        exact refCheck_few a cap ws s w hW h0 h1 hfv hl
      · have hl' : s.least ≤ (ws.length : Int) := by omega
        by_cases hm : 0 < s.most ∧ s.most < (ws.length : Int)
        · rw [hno (Cm.countOk_many hm.1 hm.2)]
          exact refCheck_many a cap ws s w hW h0 h1 hfv hl' hm.1 hm.2
        · have hr := Cm.countOk_rest (s := s) (n := ws.length) hl' (by omega)
          by_cases n1 : s.nm = [77, 83, 69, 84]
          · have hm0 := Cm.named hmem (.inl n1)
            rw [if_pos (.inl n1)] at hr
            rcases Nat.mod_two_eq_zero_or_one ws.length with hp | hp
            · rw [hno (by rw [hr, hp]; rfl)]
              exact refCheck_mset_bad a cap ws s w hW h0 h1 hfv hl' hm0 n1 hp
            · exact refCheck_mset a cap ws s w hW h0 h1 hfv hok hf (by rw [hr, hp]; rfl) hl' hm0 n1 hp
          · by_cases n2 : s.nm = [77, 83, 69, 84, 78, 88]
            · have hm0 := Cm.named hmem (.inr (.inl n2))
              rw [if_pos (.inr n2)] at hr
              rcases Nat.mod_two_eq_zero_or_one ws.length with hp | hp
              · rw [hno (by rw [hr, hp]; rfl)]
                exact refCheck_msetnx_bad a cap ws s w hW h0 h1 hfv hl' hm0 n2 hp
              · exact refCheck_msetnx a cap ws s w hW h0 h1 hfv hok hf (by rw [hr, hp]; rfl) hl' hm0 n2 hp
            · rw [if_neg (fun h => h.elim n1 n2)] at hr
              by_cases n3 : s.nm = [72, 83, 69, 84]
              · have hm0 := Cm.named hmem (.inr (.inr n3))
                rw [if_pos n3] at hr
                rcases Nat.mod_two_eq_zero_or_one ws.length with hp | hp
                · exact refCheck_hset a cap ws s w hW h0 h1 hfv hok hf (by rw [hr, hp]; rfl) hl' hm0 n3 hp
                · rw [hno (by rw [hr, hp]; rfl)]
                  exact refCheck_hset_bad a cap ws s w hW h0 h1 hfv hl' hm0 n3 hp
              · rw [if_neg n3] at hr
                by_cases hm1 : 0 < s.most
                · exact refCheck_some a cap ws s w hW h0 h1 hfv hok hf hr hl' n1 n2 n3 hm1 (by omega)
                · exact refCheck_free a cap ws s w hW h0 h1 hfv hok hf hr hl' n1 n2 n3 (by omega)

end Go.Proofs.Ytibipalncknddaa
