/- The contracts of cmd.Check and cmd.Keys. -/
import Derived.Test.YtokcbcjonbjkgaaGreatDoorCmKeys
namespace Go.Proofs.YtokcbcjonbjkgaaGreatDoor
open Go.RowKit Go.Shelf
attribute [local go_sem] Oper.semAt_some

/-- what Check tells. -/
def chkV (ws : List (List UInt8)) : Value := match Cm.checkS ws with | none => .tuple #[spV zeroSp, .bool false] | some s => .tuple #[spV s, .bool true]

theorem Cm.check_size {ws : List (List UInt8)} (h : ws.length = 0 ∨ 100 < ws.length) : Cm.checkS ws = none := by
  unfold Cm.checkS
  rw [if_pos h]
theorem Cm.check_find {ws : List (List UInt8)} (h : Cm.findS (ws.getD 0 []) = none) : Cm.checkS ws = none := by
  unfold Cm.checkS
  rw [h]
  split <;> rfl
theorem Cm.check_some {ws : List (List UInt8)} {s : Cm.Sp} (h : ¬ (ws.length = 0 ∨ 100 < ws.length)) (hf : Cm.findS (ws.getD 0 []) = some s) :
    Cm.checkS ws = if Cm.countOk s ws.length && (Cm.keysS s ws).all (fun k => decide (k.length ≤ 40)) then some s else none := by
  unfold Cm.checkS
  rw [if_neg h, hf]

/-- Check's two results: a row, and whether. -/
def CRes (w : World) (x : Cm.Sp) (ok : Bool) (W : World) : Prop := SpBox W w.heap.size x ∧ Boxed W (w.heap.size + 1) 4 (.bool ok) ∧ Below w.heap.size w W

theorem CRes.keep {w W W' : World} {x : Cm.Sp} {ok : Bool} (h : CRes w x ok W) {S : Nat → Prop} (hk : Keeps S W W') (hS : ∀ k, k < w.heap.size + 2 → S k) : CRes w x ok W' := by
  obtain ⟨h1, h2, h3⟩ := h
  exact ⟨hk.heap h1 (hS _ (by omega)), hk.heap h2 (hS _ (by omega)), h3.trans (hk.below h3.size fun k hk' => hS k (by omega))⟩

theorem CRes.set {w W : World} {x : Cm.Sp} {ok : Bool} (h : CRes w x ok W) (y : Cm.Sp) (o : Bool) : CRes w y o ((stSp W w.heap.size y).setCell ⟨w.heap.size + 1, 0, none⟩ (.bool o)) := by
  obtain ⟨h1, h2, h3⟩ := h
  have q1 : Keeps (fun k => k ≠ w.heap.size) W (stSp W w.heap.size y) := (Keeps.refl _ _).stSp (.inr (by simp)) _
  have q2 : Keeps (fun k => k ≠ w.heap.size + 1) (stSp W w.heap.size y) ((stSp W w.heap.size y).setCell ⟨w.heap.size + 1, 0, none⟩ (.bool o)) := (Keeps.refl _ _).setCell (.inr (by simp)) _
  have k4 : Boxed (stSp W w.heap.size y) (w.heap.size + 1) 4 (.bool ok) := q1.heap h2 (by omega)
  exact ⟨q2.heap (h1.store y) (by omega), k4.set _, (h3.trans (q1.below h3.size fun k hk => by omega)).trans (q2.below (Nat.le_trans h3.size q1.size) fun k hk => by omega)⟩

theorem CRes.new (w : World) : CRes w zeroSp false ((w.alloc (.cells (spL zeroSp).toArray 76)).alloc (.cells #[.bool false] 4)) := by
  have k1 : SpBox (w.alloc (.cells (spL zeroSp).toArray 76)) w.heap.size zeroSp := World.alloc_heap_new w _
  have k2 := Boxed.new (w.alloc (.cells (spL zeroSp).toArray 76)) 4 (.bool false)
  rw [World.size_alloc] at k2
  exact ⟨((Keeps.refl (fun _ => True) _).alloc _).heap k1 trivial, k2, ((Below.refl _ w).alloc (Nat.le_refl _) _).alloc (by simp) _⟩

theorem CRes.results {w W : World} {x : Cm.Sp} {ok : Bool} (h : CRes w x ok W) {fn : Func} {t u : Tmp} (hr : fn.results = #[.cell t 76, .cell u 4]) {tmps : Array Value} (ht : tmps.getD t undef = .pointer (some ⟨w.heap.size, 0, none⟩)) (hu : tmps.getD u undef = .pointer (some ⟨w.heap.size + 1, 0, none⟩)) :
    (Go.results fn tmps).run Tryz.prog W = .ok (.tuple #[spV x, .bool ok]) W := results_cell2 hr ht (loadVar26 _ _ _ h.1.at) hu (loadVar4 _ _ _ h.2.1.cell)

set_option maxRecDepth 100000 in
set_option maxHeartbeats 4000000 in
theorem check_size_any (a : Option Addr) (cap n : Nat) (w : World) (hn : n ≤ 9223372036854775807) (h : n = 0 ∨ 100 < n) :
    CallsIn Fence.wide 0 Tryz.prog 25 #[.slice a n cap] w fun e W' => e = .returned (.tuple #[spV zeroSp, .bool false]) ∧ Below w.heap.size w W' := by
  have HF := Lib.hid (CRes.new w)
  refine callsIn_of_wp_marks Tryz.func25 rfl trivial ?_ rfl
  simp only [Tryz.ntmps25, List.size_toArray, List.length_cons, List.length_nil, Nat.reduceAdd, Nat.reduceSub, Array.replicate_succ, Array.replicate_zero, List.push_toArray, List.append_toArray, List.nil_append, List.cons_append]
  rcases h with rfl | h
  · gi_wp2
    exact ⟨_, HF.out.results rfl rfl rfl, rfl, HF.out.2.2⟩
  · have h0 : ((n : Int) == 0) = false := by rw [beq_eq_false_iff_ne]; omega
    have h1 : (100 : Int) < n := by omega
    have h2 : (n : Int) ≤ 9223372036854775807 := by omega
    gi_wp2
    exact ⟨_, HF.out.results rfl rfl rfl, rfl, HF.out.2.2⟩

/-- the words' first one. -/
theorem first_cell {w : World} {a : Option Addr} {cap : Nat} {ws : List (List UInt8)} (h : Wds w a cap ws) (h0 : 0 < ws.length) : ∃ b off, a = some ⟨b, off, none⟩ ∧ b < w.heap.size ∧ w.cell? ⟨b, off, none⟩ = some (.string ⟨(ws.getD 0 []).toArray⟩) := by
  obtain ⟨b, off, ha, hb, hc⟩ := h.get h0
  exact ⟨b, off, ha, hb, by simpa using hc 0 h0⟩

set_option maxRecDepth 100000 in
set_option maxHeartbeats 4000000 in
theorem check_none_any (a : Option Addr) (cap : Nat) (ws : List (List UInt8)) (w : World) (hW : Wds w a cap ws) (h0 : 0 < ws.length) (h1 : ws.length ≤ 100) (hf : Cm.findS (ws.getD 0 []) = none) :
    CallsIn Fence.wide 0 Tryz.prog 25 #[.slice a ws.length cap] w fun e W' => e = .returned (.tuple #[spV zeroSp, .bool false]) ∧ Below w.heap.size w W' := by
  have HF := Lib.hid (CRes.new w)
  have hx := hW.len (k := 0)
  obtain ⟨b, off, rfl, hb, hc⟩ := first_cell hW h0
  have hfx := fun W => cmFind_any (ws.getD 0 []) W hx
  unfold findV at hfx
  rw [hf] at hfx
  have HX := Lib.hid hfx
  have e0 : ((ws.length : Int) == 0) = false := by rw [beq_eq_false_iff_ne]; omega
  have e1 : (ws.length : Int) ≤ 100 := by omega
  have e2 : (0 : Int) < ws.length := by omega
  clear hfx hf hx hW
  generalize ws.getD 0 [] = x at *
  generalize ws.length = n at *
  refine callsIn_of_wp_marks Tryz.func25 rfl trivial ?_ rfl
  simp only [Tryz.ntmps25, List.size_toArray, List.length_cons, List.length_nil, Nat.reduceAdd, Nat.reduceSub, Array.replicate_succ, Array.replicate_zero, List.push_toArray, List.append_toArray, List.nil_append, List.cons_append]
  gi_wp2_with (refine ⟨trivial, rfl, ?_⟩; refine (HX.out _).mono ?_; rintro e w1 ⟨rfl, hb1⟩; have HB1 := Lib.hid hb1; clear hb1; simp only [spV, zeroSp])
  refine ⟨trivial, ?_⟩
  obtain ⟨w2, hw2⟩ : ∃ w2, w1.alloc (.cells #[.string ⟨#[]⟩, .int .i64 0, .int .i64 0, .int .i64 0, .int .i64 0, .int .i64 0, .bool false] 76) = w2 := ⟨_, rfl⟩
  have hC : CRes w zeroSp false w2 := by
    rw [← hw2]
    exact (HF.out.keep (Keeps.of_below (S := fun _ => True) HB1.out (fun k h _ => by simpa using h)) (fun _ _ => trivial) : CRes w zeroSp false w1).keep ((Keeps.refl (fun _ => True) w1).alloc _) (fun _ _ => trivial)
  rw [hw2]
  have HC := Lib.hid hC
  obtain ⟨g0, g1, g2, g3, g4, g5, g6⟩ := hC.1.at
  have y0 := hC.1.free 0 (by omega)
  have y1 := hC.1.free 1 (by omega)
  have y2 := hC.1.free 2 (by omega)
  have y3 := hC.1.free 3 (by omega)
  have y4 := hC.1.free 4 (by omega)
  have y5 := hC.1.free 5 (by omega)
  have y6 := hC.1.free 6 (by omega)
  have y7 := hC.2.1.cell
  have y8 := hC.2.1.frozen
  simp only [Nat.zero_add, zeroSp] at g0 g1 g2 g3 g4 g5 g6
  clear hC hw2
  gi_wp2
  exact ⟨_, (HC.out.set zeroSp false).results rfl rfl rfl, rfl, (HC.out.set zeroSp false).2.2⟩

set_option maxRecDepth 100000 in
set_option maxHeartbeats 4000000 in
theorem check_count_any (a : Option Addr) (cap : Nat) (ws : List (List UInt8)) (s : Cm.Sp) (w : World) (hW : Wds w a cap ws) (h0 : 0 < ws.length) (h1 : ws.length ≤ 100) (hf : Cm.findS (ws.getD 0 []) = some s) (hcn : Cm.countOk s ws.length = false) :
    CallsIn Fence.wide 0 Tryz.prog 25 #[.slice a ws.length cap] w fun e W' => e = .returned (.tuple #[spV zeroSp, .bool false]) ∧ Below w.heap.size w W' := by
  have HF := Lib.hid (CRes.new w)
  have hx := hW.len (k := 0)
  obtain ⟨b, off, rfl, hb, hc⟩ := first_cell hW h0
  have hfx := fun W => cmFind_any (ws.getD 0 []) W hx
  unfold findV at hfx
  rw [hf] at hfx
  have HX := Lib.hid hfx
  have hcnt := fun W => (callsIn_wide.2 (cmMayCount_any s ws.length W (by omega)) : CallsIn Fence.wide 0 Tryz.prog _ _ _ _)
  rw [hcn] at hcnt
  have HCT := Lib.hid hcnt
  have e0 : ((ws.length : Int) == 0) = false := by rw [beq_eq_false_iff_ne]; omega
  have e1 : (ws.length : Int) ≤ 100 := by omega
  have e2 : (0 : Int) < ws.length := by omega
  clear hfx hf hx hW hcnt hcn
  generalize ws.getD 0 [] = x at *
  generalize ws.length = n at *
  obtain ⟨nm, least, most, first, last, step, wb⟩ := s
  refine callsIn_of_wp_marks Tryz.func25 rfl trivial ?_ rfl
  simp only [Tryz.ntmps25, List.size_toArray, List.length_cons, List.length_nil, Nat.reduceAdd, Nat.reduceSub, Array.replicate_succ, Array.replicate_zero, List.push_toArray, List.append_toArray, List.nil_append, List.cons_append]
  gi_wp2_with (refine ⟨trivial, rfl, ?_⟩; refine (HX.out _).mono ?_; rintro e w1 ⟨rfl, hb1⟩; have HB1 := Lib.hid hb1; clear hb1; simp only [spV])
  refine ⟨trivial, rfl, (HCT.out _).mono ?_⟩
  rintro e w2 ⟨rfl, hb2⟩
  have hC : CRes w zeroSp false w2 := by
    have k1 : CRes w zeroSp false w1 := HF.out.keep (Keeps.of_below (S := fun _ => True) HB1.out (fun k h _ => by simpa using h)) (fun _ _ => trivial)
    exact (k1.keep ((Keeps.refl (fun _ => True) w1).alloc _) (fun _ _ => trivial)).keep (Keeps.of_below (S := fun _ => True) hb2 (fun k h _ => by simpa using h)) (fun _ _ => trivial)
  have HC := Lib.hid hC
  obtain ⟨g0, g1, g2, g3, g4, g5, g6⟩ := hC.1.at
  have y0 := hC.1.free 0 (by omega)
  have y1 := hC.1.free 1 (by omega)
  have y2 := hC.1.free 2 (by omega)
  have y3 := hC.1.free 3 (by omega)
  have y4 := hC.1.free 4 (by omega)
  have y5 := hC.1.free 5 (by omega)
  have y6 := hC.1.free 6 (by omega)
  have y7 := hC.2.1.cell
  have y8 := hC.2.1.frozen
  simp only [Nat.zero_add, zeroSp] at g0 g1 g2 g3 g4 g5 g6
  clear hC hb2
  gi_wp2
  exact ⟨_, (HC.out.set zeroSp false).results rfl rfl rfl, rfl, (HC.out.set zeroSp false).2.2⟩

set_option maxRecDepth 100000 in
set_option maxHeartbeats 4000000 in
theorem check_keys_any (b off cap : Nat) (ws : List (List UInt8)) (s : Cm.Sp) (w : World) (hW : Wds w (some ⟨b, off, none⟩) cap ws) (h0 : 0 < ws.length) (h1 : ws.length ≤ 100) (hf : Cm.findS (ws.getD 0 []) = some s) (hcn : Cm.countOk s ws.length = true) (hb : b < w.heap.size)
    (hc : w.cell? ⟨b, off, none⟩ = some (.string ⟨(ws.getD 0 []).toArray⟩)) :
    CallsIn Fence.wide 0 Tryz.prog 25 #[.slice (some ⟨b, off, none⟩) ws.length cap] w fun e W' => e = .returned (chkV ws) ∧ Below w.heap.size w W' := by
  have HF := Lib.hid (CRes.new w)
  have hx := hW.len (k := 0)
  have hchk := Cm.check_some (by omega) hf
  rw [hcn, Bool.true_and] at hchk
  have HCK := Lib.hid hchk
  have hfx := fun W => cmFind_any (ws.getD 0 []) W hx
  unfold findV at hfx
  rw [hf] at hfx
  have HX := Lib.hid hfx
  have hcnt := fun W => (callsIn_wide.2 (cmMayCount_any s ws.length W (by omega)) : CallsIn Fence.wide 0 Tryz.prog _ _ _ _)
  rw [hcn] at hcnt
  have HCT := Lib.hid hcnt
  have hsq := fun (B1 B2 : Nat) (W : World) (k1 : SpBox W B1 s) (k2 : Boxed W B2 31 (.slice (some ⟨b, off, none⟩) ws.length cap)) (k3 : Wds W (some ⟨b, off, none⟩) cap ws) =>
    cmKeys_seq B1 B2 s (some ⟨b, off, none⟩) cap ws W k1 k2 (by omega) k3 (Cm.findS_ok hf) hcn (fun k => k = B1 ∨ k = B2 ∨ k = b) (fun _ => False) (fun k hk => hk.imp id (Or.imp id fun ⟨o, e⟩ => by cases e; rfl))
  have HSQ := Lib.hid hsq
  have hcb := hW
  have HWD := Lib.hid hW
  have e0 : ((ws.length : Int) == 0) = false := by rw [beq_eq_false_iff_ne]; omega
  have e1 : (ws.length : Int) ≤ 100 := by omega
  have e2 : (0 : Int) < ws.length := by omega
  have HFI := Lib.hid hf
  clear hfx hf hx hW hcnt hcn hchk hcb hsq
  generalize ws.getD 0 [] = x at *
  generalize ws.length = n at *
  refine callsIn_of_wp_marks Tryz.func25 rfl trivial ?_ rfl
  simp only [Tryz.ntmps25, List.size_toArray, List.length_cons, List.length_nil, Nat.reduceAdd, Nat.reduceSub, Array.replicate_succ, Array.replicate_zero, List.push_toArray, List.append_toArray, List.nil_append, List.cons_append]
  obtain ⟨nm, least, most, first, last, step, wb⟩ := s
  gi_wp2_with (refine ⟨trivial, rfl, ?_⟩; refine (HX.out _).mono ?_; rintro e w1 ⟨rfl, hb1⟩; have HB1 := Lib.hid hb1; clear hb1; simp only [spV])
  refine ⟨trivial, rfl, (HCT.out _).mono ?_⟩
  rintro e w2 ⟨rfl, hb2⟩
  have k1 : CRes w zeroSp false w1 := HF.out.keep (Keeps.of_below (S := fun _ => True) HB1.out (fun k h _ => by simpa using h)) (fun _ _ => trivial)
  have hC : CRes w zeroSp false w2 :=
    (k1.keep ((Keeps.refl (fun _ => True) w1).alloc _) (fun _ _ => trivial)).keep (Keeps.of_below (S := fun _ => True) hb2 (fun k h _ => by simpa using h)) (fun _ _ => trivial)
  have hS : SpBox w2 w1.heap.size ⟨nm, least, most, first, last, step, wb⟩ := (Keeps.of_below (S := fun _ => True) hb2 (fun k h _ => by simpa using h)).heap (World.alloc_heap_new w1 _) trivial
  have hs1 : w.heap.size + 2 ≤ w1.heap.size := by have := HB1.out.size; simp at this; omega
  have HC := Lib.hid hC
  have HS := Lib.hid hS
  obtain ⟨c0, c1, c2, c3, c4, c5, c6⟩ := hS.at
  simp only [Nat.zero_add] at c0 c1 c2 c3 c4 c5 c6
  clear hC hb2 k1 hS
  gi_wp2_with (refine ⟨trivial, rfl, ?_⟩; refine (keysIter_any ⟨nm, least, most, first, last, step, wb⟩ _ _ _ _).mono ?_; rintro e w3 ⟨rfl, hw3⟩)
  have HW3 := Lib.hid hw3
  clear hw3
  have h3 : w2.heap.size + 2 = w3.heap.size ∧ SpBox w3 w2.heap.size ⟨nm, least, most, first, last, step, wb⟩ ∧ Boxed w3 (w2.heap.size + 1) 31 (.slice (some ⟨b, off, none⟩) n cap) ∧ Keeps (fun _ => True) w2 w3 := by
    rw [HW3.out]
    refine ⟨by simp, ((Keeps.refl (fun _ => True) _).alloc _).heap (World.alloc_heap_new w2 _) trivial, ?_, ((Keeps.refl _ _).alloc _).alloc _⟩
    have := Boxed.new (w2.alloc (.cells (spL ⟨nm, least, most, first, last, step, wb⟩).toArray 76)) 31 (.slice (some ⟨b, off, none⟩) n cap)
    rwa [World.size_alloc] at this
  obtain ⟨h3s, h3a, h3b, h3k⟩ := h3
  have hC3 : CRes w zeroSp false w3 := HC.out.keep h3k fun _ _ => trivial
  have hS3 : SpBox w3 w1.heap.size ⟨nm, least, most, first, last, step, wb⟩ := h3k.heap HS.out trivial
  have hsz2 : w.heap.size + 2 ≤ w2.heap.size := by have := HC.out.2.1.lt; omega
  have hWD3 : Wds w3 (some ⟨b, off, none⟩) cap ws := HWD.out.later hC3.2.2
  have hseq := HSQ.out w2.heap.size (w2.heap.size + 1) w3 h3a h3b hWD3
  have hsz3 : w2.heap.size + 2 ≤ w3.heap.size := by omega
  have hsl : w1.heap.size < w2.heap.size := HS.out.lt
  have HSQ3 := Lib.hid hseq
  rw [← HW3.out]
  clear hseq h3s h3a h3b h3k HSQ HX HCT HW3 HC HS hWD3
  refine wpIn_rangeT (gf := 50) (lb := #[.pointer (some ⟨w2.heap.size, 0, none⟩), .pointer (some ⟨w2.heap.size + 1, 0, none⟩)]) rfl (enters_of Tryz.func50 (by kernel_rfl) rfl)
    HSQ3.out (Below.refl _ _) (fun k h => by rcases h with rfl | rfl | rfl <;> omega) (fun k h => h.elim) (fun _ => rfl)
    (fun _ pre W => (∀ k ∈ pre, k.length ≤ 40) ∧ CRes w zeroSp false W ∧ SpBox W w1.heap.size ⟨nm, least, most, first, last, step, wb⟩) (fun c _ pre W => c = .ret ∧ (∃ k ∈ pre, 40 < k.length) ∧ CRes w zeroSp false W) ?hI ?hIx (fun h => by cases h) ⟨by simp, hC3, hS3⟩
    (fun _ y a' _ => a' = { tmps := #[Value.slice (some { block := b, off := off }) n cap, undef, Value.pointer (some { block := w.heap.size, off := 0 }), Value.pointer (some { block := w.heap.size + 1, off := 0 }), Value.pointer (some { block := w1.heap.size, off := 0 }), Value.bool true, .string ⟨y.toArray⟩, Value.slice (some { block := b, off := off }) n cap, Value.int IntKind.i64 ↑n, Value.bool false, Value.bool false, Value.slice (some { block := b, off := off }) n cap, Value.int IntKind.i64 ↑n, Value.bool (decide ((100 : Int) < (n : Int))), Value.bool (decide ((100 : Int) < (n : Int))), undef, Value.tuple #[Value.agg #[Value.string { data := nm.toArray }, Value.int IntKind.i64 least, Value.int IntKind.i64 most, Value.int IntKind.i64 first, Value.int IntKind.i64 last, Value.int IntKind.i64 step, Value.bool wb], Value.bool true], Value.slice (some { block := b, off := off }) n cap, Value.pointer (some { block := b, off := off }), Value.string { data := x.toArray }, Value.tuple #[Value.agg #[Value.string { data := nm.toArray }, Value.int IntKind.i64 least, Value.int IntKind.i64 most, Value.int IntKind.i64 first, Value.int IntKind.i64 last, Value.int IntKind.i64 step, Value.bool wb], Value.bool true], Value.agg #[Value.string { data := nm.toArray }, Value.int IntKind.i64 least, Value.int IntKind.i64 most, Value.int IntKind.i64 first, Value.int IntKind.i64 last, Value.int IntKind.i64 step, Value.bool wb], Value.bool true, Value.bool true, Value.bool false, Value.bool false, Value.agg #[Value.string { data := nm.toArray }, Value.int IntKind.i64 least, Value.int IntKind.i64 most, Value.int IntKind.i64 first, Value.int IntKind.i64 last, Value.int IntKind.i64 step, Value.bool wb], Value.slice (some { block := b, off := off }) n cap, Value.int IntKind.i64 ↑n, Value.bool true, Value.bool false, Value.bool false, undef, Value.agg #[Value.string { data := nm.toArray }, Value.int IntKind.i64 least, Value.int IntKind.i64 most, Value.int IntKind.i64 first, Value.int IntKind.i64 last, Value.int IntKind.i64 step, Value.bool wb], Value.slice (some { block := b, off := off }) n cap, Value.func (Fn.func 50) #[] #[Value.pointer (some { block := w2.heap.size, off := 0 }), Value.pointer (some { block := w2.heap.size + 1, off := 0 })], .string ⟨y.toArray⟩, undef, undef, undef, undef, undef], defers := [] })
    (fun O x a' A C h hk => h) ?assign ?body ?done ?stop
  case hI =>
    rintro O s A C ⟨h1, h2, h3⟩ hk
    exact ⟨h1, h2.keep hk fun k hk' => ⟨id, .inl (by omega)⟩, hk.heap h3 ⟨id, .inl (by omega)⟩⟩
  case hIx =>
    rintro c O s A C ⟨h0, h1, h2⟩ hk
    exact ⟨h0, h1, h2.keep hk fun k hk' => ⟨id, .inl (by omega)⟩⟩
  case assign =>
    intro O pre y A K hO hA hi hK
    have HK := Lib.hid hK
    have HI := Lib.hid hi
    clear hK hi
    unfold encW
    gi_wp2
    exact HK.out _ _ (Keeps.refl _ _) HI.out rfl
  case body =>
    rintro O pre y a' A hO hA ⟨r, hr⟩ ⟨hp, hC, hS⟩ rfl hlen
    have HC := Lib.hid hC
    have HS := Lib.hid hS
    have HP := Lib.hid hp
    clear hp
    by_cases hlong : 40 < y.length
    · have hlong' : (40 : Int) < (y.length : Int) := by omega
      obtain ⟨g0, g1, g2, g3, g4, g5, g6⟩ := hC.1.at
      have y0 := hC.1.free 0 (by omega)
      have y1 := hC.1.free 1 (by omega)
      have y2 := hC.1.free 2 (by omega)
      have y3 := hC.1.free 3 (by omega)
      have y4 := hC.1.free 4 (by omega)
      have y5 := hC.1.free 5 (by omega)
      have y6 := hC.1.free 6 (by omega)
      have y7 := hC.2.1.cell
      have y8 := hC.2.1.frozen
      simp only [Nat.zero_add, zeroSp] at g0 g1 g2 g3 g4 g5 g6
      clear hC hS
      gi_wp2
      have hcr := HC.out.set zeroSp false
      have hkk : Keeps (RoundS (fun k => k = w2.heap.size ∨ k = w2.heap.size + 1 ∨ k = b) (fun _ => False) w3.heap.size O) A ((stSp A w.heap.size zeroSp).setCell ⟨w.heap.size + 1, 0, none⟩ (.bool false)) := by
        have nS : ∀ B, (B = w.heap.size ∨ B = w.heap.size + 1) → ¬ RoundS (fun k => k = w2.heap.size ∨ k = w2.heap.size + 1 ∨ k = b) (fun _ => False) w3.heap.size O B := by
          rintro B hB (h | h | h)
          · omega
          · exact h
          · omega
        exact ((Keeps.refl _ _).stSp (.inr (nS _ (.inl rfl))) _).setCell (p := ⟨w.heap.size + 1, 0, none⟩) (.inr (nS _ (.inr rfl))) _
      exact ⟨hkk, O, ⟨fun j hj => ⟨Nat.lt_of_lt_of_le (hO j hj).2 hkk.size, .inl hj⟩, rfl, ⟨y, by simp, hlong⟩, hcr⟩⟩
    · have hlong' : (y.length : Int) ≤ 40 := by omega
      clear hC hS
      gi_wp2
      refine ⟨Keeps.refl _ _, O, ⟨fun j hj => ⟨(hO j hj).2, .inl hj⟩, ?_, HC.out, HS.out⟩⟩
      intro k hk
      rcases List.mem_append.1 hk with h | h
      · exact HP.out k h
      · rw [List.mem_singleton.1 h]; omega
  case done =>
    rintro O D xs A hD hDs hO - rfl ⟨hp, hC, hS⟩ hDd
    have hck : Cm.checkS ws = some ⟨nm, least, most, first, last, step, wb⟩ := by
      rw [HCK.out, if_pos]
      rw [List.all_eq_true]
      intro k hk
      simpa using hp k hk
    have HV := Lib.hid hck
    have HC := Lib.hid hC
    obtain ⟨c0, c1, c2, c3, c4, c5, c6⟩ := hS.at
    simp only [Nat.zero_add] at c0 c1 c2 c3 c4 c5 c6
    obtain ⟨g0, g1, g2, g3, g4, g5, g6⟩ := hC.1.at
    have y0 := hC.1.free 0 (by omega)
    have y1 := hC.1.free 1 (by omega)
    have y2 := hC.1.free 2 (by omega)
    have y3 := hC.1.free 3 (by omega)
    have y4 := hC.1.free 4 (by omega)
    have y5 := hC.1.free 5 (by omega)
    have y6 := hC.1.free 6 (by omega)
    have y7 := hC.2.1.cell
    have y8 := hC.2.1.frozen
    simp only [Nat.zero_add, zeroSp] at g0 g1 g2 g3 g4 g5 g6
    clear hp hC hS hck
    simp only [Exit.inBlock, Exit.then]
    gi_wp2
    have hcr := HC.out.set ⟨nm, least, most, first, last, step, wb⟩ true
    have hDn : ((stSp A w.heap.size ⟨nm, least, most, first, last, step, wb⟩).setCell ⟨w.heap.size + 1, 0, none⟩ (.bool true)).heap[D]? = some (.deferred (some [])) :=
      ((Keeps.refl (fun k => k ≠ w.heap.size ∧ k ≠ w.heap.size + 1) A).stSp (.inr (fun h => h.1 rfl)) ⟨nm, least, most, first, last, step, wb⟩ |>.setCell (p := ⟨w.heap.size + 1, 0, none⟩) (.inr (fun h => h.2 rfl)) (.bool true)).heap hDd ⟨by omega, by omega⟩
    refine ⟨by simp, .inl ⟨_, _, rfl, run_takeDeferred hDn, ?_⟩⟩
    have hcr2 := hcr.keep ((Keeps.refl (fun k => k ≠ D) _).putObj (fun h => h rfl) (.deferred none)) fun k hk => by omega
    exact ⟨_, hcr2.results rfl rfl rfl, by simp only [chkV, HV.out], hcr2.2.2⟩
  case stop =>
    rintro O D c pre A hD hDs hO - hSp ⟨rfl, ⟨k, hk, hlong⟩, hC⟩ hDd
    have hck : Cm.checkS ws = none := by
      rw [HCK.out, if_neg]
      rw [List.all_eq_true]
      intro h
      have := h k (hSp.subset hk)
      simp at this
      omega
    have HV := Lib.hid hck
    have hcr2 := hC.keep ((Keeps.refl (fun k => k ≠ D) _).putObj (fun h => h rfl) (.deferred none)) fun k hk => by omega
    refine wpIn_ret ?_
    exact ⟨by simp, .inl ⟨_, _, rfl, run_takeDeferred hDd, _, hcr2.results rfl rfl rfl, by simp only [chkV, HV.out], hcr2.2.2⟩⟩

theorem check_any (a : Option Addr) (cap : Nat) (ws : List (List UInt8)) (w : World) (hW : Wds w a cap ws) : CallsIn Fence.wide 0 Tryz.prog 25 #[.slice a ws.length cap] w fun e W' => e = .returned (chkV ws) ∧ Below w.heap.size w W' := by
  have hn : ws.length ≤ 9223372036854775807 := Nat.le_trans hW.1 hW.2.1
  by_cases h : ws.length = 0 ∨ 100 < ws.length
  · have e : chkV ws = .tuple #[spV zeroSp, .bool false] := by unfold chkV; rw [Cm.check_size h]
    rw [e]
    exact check_size_any a cap ws.length w hn h
  · cases hf : Cm.findS (ws.getD 0 []) with
    | none =>
      have e : chkV ws = .tuple #[spV zeroSp, .bool false] := by unfold chkV; rw [Cm.check_find hf]
      rw [e]
      exact check_none_any a cap ws w hW (by omega) (by omega) hf
    | some s =>
      cases hc : Cm.countOk s ws.length with
      | false =>
        have e : chkV ws = .tuple #[spV zeroSp, .bool false] := by unfold chkV; rw [Cm.check_some h hf, hc]; rfl
        rw [e]
        exact check_count_any a cap ws s w hW (by omega) (by omega) hf hc
      | true =>
        obtain ⟨b, off, rfl, hb, hcell⟩ := first_cell hW (by omega)
        exact check_keys_any b off cap ws s w hW (by omega) (by omega) hf hc hb hcell

end Go.Proofs.YtokcbcjonbjkgaaGreatDoor
