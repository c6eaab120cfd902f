/- The contract of resp.withOwn. -/
import Derived.Test.YtcjbfgkmpoebgaaDoorRpOwn
import Derived.Deep.Cut
import Derived.Deep.QuietTactic
import Derived.Deep.RegionWith
import Derived.StillTailTactics
namespace Go.Proofs.YtcjbfgkmpoebgaaDoor
open Go.RowKit Go.Shelf
attribute [local go_sem] Oper.semAt_some

theorem Step.call {base : Nat} {bs cs : List UInt8} {v v' : Value} {W A C : World} (h : Step base bs v W A) (hb : Buf base cs v' C) (hl : Below base A C) (ho : Lib.OthersKept 5 none A C) : Step base cs v' W C :=
  ⟨hb, h.below.trans hl, h.others.trans ho⟩

set_option maxRecDepth 100000 in
set_option maxHeartbeats 4000000 in
theorem own1 (base : Nat) (bs : List UInt8) (v : Value) (s : List UInt8) (n : Int) (a : Option Addr) (m cap : Nat) (W : World) (h : Buf base bs v W) (hb : base ≤ W.heap.size) (h8 : 8 ≤ base) (hl : bs.length ≤ 2000000000000) (hs : s.length ≤ 1048576) (_hn0 : -9223372036854775808 ≤ n) (_hn1 : n ≤ 9223372036854775807) (_hm : m ≤ 281474976710656) (henv : Env W) :
    Calls Tryd.prog 26 #[v, rv 1 s n a m cap] W (BOut base (bs ++ Rp.own ⟨1, s, n, m⟩) W) := by
  obtain ⟨i0, hi, hz0, hz1, hz2⟩ := info_parts info5
  have hsz : (⟨s.toArray⟩ : ByteArray).size = s.length := by show s.toArray.size = _; simp
  unfold rv
  obtain ⟨W1, hW1⟩ : ∃ W1, W.alloc (.cells #[.int .i64 1, .string ⟨s.toArray⟩, .int .i64 n, .slice a m cap] 24) = W1 := ⟨_, rfl⟩
  have hbox : W1.heap[W.heap.size]? = some (.cells #[.int .i64 1, .string ⟨s.toArray⟩, .int .i64 n, .slice a m cap] 24 (0, 0)) := by rw [← hW1]; exact World.alloc_heap_new W _
  have hb1 : base ≤ W1.heap.size := by rw [← hW1, World.size_alloc]; omega
  have HST1 : Hid (Step base bs v W1 W1) := Lib.hid (Step.start (by rw [← hW1]; exact h.alloc _))
  have HB1 : Hid (Below base W W1 ∧ Lib.OthersKept 5 none W W1) := Lib.hid (by rw [← hW1]; exact ⟨(Below.refl _ _).alloc hb _, (Lib.OthersKept.refl _ _ _).alloc _⟩)
  have HE : Hid (Env W1) := Lib.hid (henv.below HB1.out.1 h8)
  have HSZ := Lib.hid hsz
  have HW1 := Lib.hid hW1
  obtain ⟨c0, c1, c2, c3⟩ := cells_four hbox
  clear hW1 h henv
  go_enter Tryd.func26, Tryd.ntmps26
  go_upto_region 3 with (fail)
  rw [HW1.out]
  clear HW1
  go_region_held3 (fun w' => w'.cell? ⟨W.heap.size, 1, none⟩ = some (.string ⟨s.toArray⟩))
    (first
      | go_keep
      | exact (cells_four (HS3.out.cell hbox (by decide))).2.1
      | exact (cells_four (HS2.out.cell hbox (by decide))).2.1)
    (first
      | (refine step_append_str (by rfl) _ _ _ _ (by rfl) base 5 i0 Tryd.underlying28 Tryd.underlying9 hi hz0 hz1 hz2 _ _ _ (by rfl) HS2.out.buf ⟨s.toArray⟩ ?h1 ?h2 ?h3 ?h4 ?h5
         case h1 => rfl
         case h2 => (rw [HSZ.out, List.length_append, List.length_singleton]; unfold maxLen; omega)
         case h3 => (rw [HSZ.out, List.length_append, List.length_singleton]; omega)
         case h4 => (have := HS2.out.below.size; omega)
         intro v3 w3 hown hgrow
         have HS3 : Hid (Step base (bs ++ [43] ++ s) v3 W1 w3) := Lib.hid (HS2.out.grown hb1 hown hgrow HSZ.out (by simp [Lib.byteCells, Lib.strCells]))
         clear hown hgrow)
      | (refine step_append_lies _ (by rfl) _ _ _ (by rfl) base 5 i0 _ 1 1 Tryd.underlying28 hi hz0 hz1 hz2 rfl (by omega) v bs.length (Lib.byteCells bs) (by rfl) ((HST1.out.buf.alloc _).drew) ⟨W1.heap.size, 0, none⟩ 1 1 [.int .u8 43] (by rfl) (by rfl) (World.news_of_block (cs := #[.int .u8 43]) (t := 5) (fr := (0, 0)) (World.alloc_heap_new W1 _)) (by simp [Value.oneCell']) (by omega) (by unfold maxLen; omega) (by omega) (by simp; omega) (W1.heap.size + 1) (by simp) ?_; intro gg capg w2 hown hgrow _ _; have HS2 : Hid (Step base (bs ++ [43]) (.slice (some ⟨gg, 0, none⟩) (bs.length + 1) capg) W1 w2) := Lib.hid (((HST1.out.alloc hb1 _).drew).grown hb1 hown hgrow rfl rfl); clear hown hgrow))
  have HLEN : Hid ((bs ++ [43] ++ s).length ≤ 2100000000000) := Lib.hid (by simp only [List.length_append, List.length_singleton]; omega)
  go_wp2_with (at_builtin; refine wpList_append_str rfl _ _ _ _ rfl base 5 i0 Tryd.underlying28 Tryd.underlying9 hi hz0 hz1 hz2 _ _ _ rfl HS3.out.buf ⟨#[13, 10]⟩ rfl ?c3 ?c4 ?c5 ?_)
  case c3 => have := HLEN.out; rw [show (⟨#[13, 10]⟩ : ByteArray).size = 2 from rfl]; simp only [List.length_append, List.length_cons, List.length_nil] at this ⊢; unfold maxLen; omega
  case c4 => have := HLEN.out; rw [show (⟨#[13, 10]⟩ : ByteArray).size = 2 from rfl]; simp only [List.length_append, List.length_cons, List.length_nil] at this ⊢; omega
  case c5 => have := HS3.out.below.size; omega
  intro v4 w4 hown hgrow
  have HS4 := Lib.hid (HS3.out.grown (cs := [13, 10]) (k := 2) (ys := Lib.strCells ⟨#[13, 10]⟩) hb1 (by simpa using hown) hgrow rfl rfl)
  clear hown hgrow
  go_wp2
  go_ret
  refine ⟨v4, rfl, ?_, HB1.out.1.trans HS4.out.below, HB1.out.2.trans HS4.out.others⟩
  have := HS4.out.buf
  simpa [Rp.own, Rp.crlf] using this

set_option maxRecDepth 100000 in
set_option maxHeartbeats 4000000 in
theorem own2 (base : Nat) (bs : List UInt8) (v : Value) (s : List UInt8) (n : Int) (a : Option Addr) (m cap : Nat) (W : World) (h : Buf base bs v W) (hb : base ≤ W.heap.size) (h8 : 8 ≤ base) (hl : bs.length ≤ 2000000000000) (hs : s.length ≤ 1048576) (_hn0 : -9223372036854775808 ≤ n) (_hn1 : n ≤ 9223372036854775807) (_hm : m ≤ 281474976710656) (henv : Env W) :
    Calls Tryd.prog 26 #[v, rv 2 s n a m cap] W (BOut base (bs ++ Rp.own ⟨2, s, n, m⟩) W) := by
  obtain ⟨i0, hi, hz0, hz1, hz2⟩ := info_parts info5
  have hsz : (⟨s.toArray⟩ : ByteArray).size = s.length := by show s.toArray.size = _; simp
  unfold rv
  obtain ⟨W1, hW1⟩ : ∃ W1, W.alloc (.cells #[.int .i64 2, .string ⟨s.toArray⟩, .int .i64 n, .slice a m cap] 24) = W1 := ⟨_, rfl⟩
  have hbox : W1.heap[W.heap.size]? = some (.cells #[.int .i64 2, .string ⟨s.toArray⟩, .int .i64 n, .slice a m cap] 24 (0, 0)) := by rw [← hW1]; exact World.alloc_heap_new W _
  have hb1 : base ≤ W1.heap.size := by rw [← hW1, World.size_alloc]; omega
  have HST1 : Hid (Step base bs v W1 W1) := Lib.hid (Step.start (by rw [← hW1]; exact h.alloc _))
  have HB1 : Hid (Below base W W1 ∧ Lib.OthersKept 5 none W W1) := Lib.hid (by rw [← hW1]; exact ⟨(Below.refl _ _).alloc hb _, (Lib.OthersKept.refl _ _ _).alloc _⟩)
  have HE : Hid (Env W1) := Lib.hid (henv.below HB1.out.1 h8)
  have HSZ := Lib.hid hsz
  have HW1 := Lib.hid hW1
  obtain ⟨c0, c1, c2, c3⟩ := cells_four hbox
  clear hW1 h henv
  go_enter Tryd.func26, Tryd.ntmps26
  go_upto_region 5 with (fail)
  rw [HW1.out]
  clear HW1
  go_region_held3 (fun w' => w'.cell? ⟨W.heap.size, 1, none⟩ = some (.string ⟨s.toArray⟩))
    (first
      | go_keep
      | exact (cells_four (HS3.out.cell hbox (by decide))).2.1
      | exact (cells_four (HS2.out.cell hbox (by decide))).2.1)
    (first
      | (refine step_append_str (by rfl) _ _ _ _ (by rfl) base 5 i0 Tryd.underlying28 Tryd.underlying9 hi hz0 hz1 hz2 _ _ _ (by rfl) HS2.out.buf ⟨s.toArray⟩ ?h1 ?h2 ?h3 ?h4 ?h5
         case h1 => rfl
         case h2 => (rw [HSZ.out, List.length_append, List.length_singleton]; unfold maxLen; omega)
         case h3 => (rw [HSZ.out, List.length_append, List.length_singleton]; omega)
         case h4 => (have := HS2.out.below.size; omega)
         intro v3 w3 hown hgrow
         have HS3 : Hid (Step base (bs ++ [45] ++ s) v3 W1 w3) := Lib.hid (HS2.out.grown hb1 hown hgrow HSZ.out (by simp [Lib.byteCells, Lib.strCells]))
         clear hown hgrow)
      | (refine step_append_lies _ (by rfl) _ _ _ (by rfl) base 5 i0 _ 1 1 Tryd.underlying28 hi hz0 hz1 hz2 rfl (by omega) v bs.length (Lib.byteCells bs) (by rfl) ((HST1.out.buf.alloc _).drew) ⟨W1.heap.size, 0, none⟩ 1 1 [.int .u8 45] (by rfl) (by rfl) (World.news_of_block (cs := #[.int .u8 45]) (t := 5) (fr := (0, 0)) (World.alloc_heap_new W1 _)) (by simp [Value.oneCell']) (by omega) (by unfold maxLen; omega) (by omega) (by simp; omega) (W1.heap.size + 1) (by simp) ?_; intro gg capg w2 hown hgrow _ _; have HS2 : Hid (Step base (bs ++ [45]) (.slice (some ⟨gg, 0, none⟩) (bs.length + 1) capg) W1 w2) := Lib.hid (((HST1.out.alloc hb1 _).drew).grown hb1 hown hgrow rfl rfl); clear hown hgrow))
  have HLEN : Hid ((bs ++ [45] ++ s).length ≤ 2100000000000) := Lib.hid (by simp only [List.length_append, List.length_singleton]; omega)
  go_wp2_with (at_builtin; refine wpList_append_str rfl _ _ _ _ rfl base 5 i0 Tryd.underlying28 Tryd.underlying9 hi hz0 hz1 hz2 _ _ _ rfl HS3.out.buf ⟨#[13, 10]⟩ rfl ?c3 ?c4 ?c5 ?_)
  case c3 => have := HLEN.out; rw [show (⟨#[13, 10]⟩ : ByteArray).size = 2 from rfl]; simp only [List.length_append, List.length_cons, List.length_nil] at this ⊢; unfold maxLen; omega
  case c4 => have := HLEN.out; rw [show (⟨#[13, 10]⟩ : ByteArray).size = 2 from rfl]; simp only [List.length_append, List.length_cons, List.length_nil] at this ⊢; omega
  case c5 => have := HS3.out.below.size; omega
  intro v4 w4 hown hgrow
  have HS4 := Lib.hid (HS3.out.grown (cs := [13, 10]) (k := 2) (ys := Lib.strCells ⟨#[13, 10]⟩) hb1 (by simpa using hown) hgrow rfl rfl)
  clear hown hgrow
  go_wp2
  go_ret
  refine ⟨v4, rfl, ?_, HB1.out.1.trans HS4.out.below, HB1.out.2.trans HS4.out.others⟩
  have := HS4.out.buf
  simpa [Rp.own, Rp.crlf] using this

set_option maxRecDepth 100000 in
set_option maxHeartbeats 4000000 in
theorem own3 (base : Nat) (bs : List UInt8) (v : Value) (s : List UInt8) (n : Int) (a : Option Addr) (m cap : Nat) (W : World) (h : Buf base bs v W) (hb : base ≤ W.heap.size) (h8 : 8 ≤ base) (hl : bs.length ≤ 2000000000000) (_hs : s.length ≤ 1048576) (hn0 : -9223372036854775808 ≤ n) (hn1 : n ≤ 9223372036854775807) (_hm : m ≤ 281474976710656) (henv : Env W) :
    Calls Tryd.prog 26 #[v, rv 3 s n a m cap] W (BOut base (bs ++ Rp.own ⟨3, s, n, m⟩) W) := by
  obtain ⟨i0, hi, hz0, hz1, hz2⟩ := info_parts info5
  have hsz : (⟨s.toArray⟩ : ByteArray).size = s.length := by show s.toArray.size = _; simp
  unfold rv
  obtain ⟨W1, hW1⟩ : ∃ W1, W.alloc (.cells #[.int .i64 3, .string ⟨s.toArray⟩, .int .i64 n, .slice a m cap] 24) = W1 := ⟨_, rfl⟩
  have hbox : W1.heap[W.heap.size]? = some (.cells #[.int .i64 3, .string ⟨s.toArray⟩, .int .i64 n, .slice a m cap] 24 (0, 0)) := by rw [← hW1]; exact World.alloc_heap_new W _
  have hb1 : base ≤ W1.heap.size := by rw [← hW1, World.size_alloc]; omega
  have HST1 : Hid (Step base bs v W1 W1) := Lib.hid (Step.start (by rw [← hW1]; exact h.alloc _))
  have HB1 : Hid (Below base W W1 ∧ Lib.OthersKept 5 none W W1) := Lib.hid (by rw [← hW1]; exact ⟨(Below.refl _ _).alloc hb _, (Lib.OthersKept.refl _ _ _).alloc _⟩)
  have HE : Hid (Env W1) := Lib.hid (henv.below HB1.out.1 h8)
  have HSZ := Lib.hid hsz
  have HW1 := Lib.hid hW1
  obtain ⟨c0, c1, c2, c3⟩ := cells_four hbox
  clear hW1 h henv
  go_enter Tryd.func26, Tryd.ntmps26
  go_upto_region 7 with (fail)
  rw [HW1.out]
  clear HW1
  go_region_held3 (fun w' => w'.cell? ⟨W.heap.size, 2, none⟩ = some (.int .i64 n))
    (first
      | go_keep
      | exact (cells_four (HS3.out.cell hbox (by decide))).2.2.1
      | exact (cells_four (HS2.out.cell hbox (by decide))).2.2.1)
    (first
      | (go_at_call 37; refine (withNumber_any base (bs ++ [58]) _ (n) w2 HS2.out.buf (by have := HS2.out.below.size; omega) h8 (by simp only [List.length_append, List.length_singleton]; omega) hn0 hn1 (HE.out.below HS2.out.below h8)).mono ?_; rintro e w3 ⟨v3, rfl, hb3, hl3, ho3⟩; have HS3 := Lib.hid (HS2.out.call hb3 hl3 ho3); clear hb3 hl3 ho3)
      | (refine step_append_lies _ (by rfl) _ _ _ (by rfl) base 5 i0 _ 1 1 Tryd.underlying28 hi hz0 hz1 hz2 rfl (by omega) v bs.length (Lib.byteCells bs) (by rfl) ((HST1.out.buf.alloc _).drew) ⟨W1.heap.size, 0, none⟩ 1 1 [.int .u8 58] (by rfl) (by rfl) (World.news_of_block (cs := #[.int .u8 58]) (t := 5) (fr := (0, 0)) (World.alloc_heap_new W1 _)) (by simp [Value.oneCell']) (by omega) (by unfold maxLen; omega) (by omega) (by simp; omega) (W1.heap.size + 1) (by simp) ?_; intro gg capg w2 hown hgrow _ _; have HS2 : Hid (Step base (bs ++ [58]) (.slice (some ⟨gg, 0, none⟩) (bs.length + 1) capg) W1 w2) := Lib.hid (((HST1.out.alloc hb1 _).drew).grown hb1 hown hgrow rfl rfl); clear hown hgrow))
  have HLEN : Hid ((bs ++ [58] ++ Dig.dec (n)).length ≤ 2100000000000) := Lib.hid (by have := dec_len20 (n := n) (by omega) (by omega); simp only [List.length_append, List.length_singleton]; omega)
  go_wp2_with (at_builtin; refine wpList_append_str rfl _ _ _ _ rfl base 5 i0 Tryd.underlying28 Tryd.underlying9 hi hz0 hz1 hz2 _ _ _ rfl HS3.out.buf ⟨#[13, 10]⟩ rfl ?c3 ?c4 ?c5 ?_)
  case c3 => have := HLEN.out; rw [show (⟨#[13, 10]⟩ : ByteArray).size = 2 from rfl]; simp only [List.length_append, List.length_cons, List.length_nil] at this ⊢; unfold maxLen; omega
  case c4 => have := HLEN.out; rw [show (⟨#[13, 10]⟩ : ByteArray).size = 2 from rfl]; simp only [List.length_append, List.length_cons, List.length_nil] at this ⊢; omega
  case c5 => have := HS3.out.below.size; omega
  intro v4 w4 hown hgrow
  have HS4 := Lib.hid (HS3.out.grown (cs := [13, 10]) (k := 2) (ys := Lib.strCells ⟨#[13, 10]⟩) hb1 (by simpa using hown) hgrow rfl rfl)
  clear hown hgrow
  go_wp2
  go_ret
  refine ⟨v4, rfl, ?_, HB1.out.1.trans HS4.out.below, HB1.out.2.trans HS4.out.others⟩
  have := HS4.out.buf
  simpa [Rp.own, Rp.crlf] using this

set_option maxRecDepth 100000 in
set_option maxHeartbeats 4000000 in
theorem own6 (base : Nat) (bs : List UInt8) (v : Value) (s : List UInt8) (n : Int) (a : Option Addr) (m cap : Nat) (W : World) (h : Buf base bs v W) (hb : base ≤ W.heap.size) (h8 : 8 ≤ base) (hl : bs.length ≤ 2000000000000) (_hs : s.length ≤ 1048576) (_hn0 : -9223372036854775808 ≤ n) (_hn1 : n ≤ 9223372036854775807) (hm : m ≤ 281474976710656) (henv : Env W) :
    Calls Tryd.prog 26 #[v, rv 6 s n a m cap] W (BOut base (bs ++ Rp.own ⟨6, s, n, m⟩) W) := by
  obtain ⟨i0, hi, hz0, hz1, hz2⟩ := info_parts info5
  have hsz : (⟨s.toArray⟩ : ByteArray).size = s.length := by show s.toArray.size = _; simp
  unfold rv
  obtain ⟨W1, hW1⟩ : ∃ W1, W.alloc (.cells #[.int .i64 6, .string ⟨s.toArray⟩, .int .i64 n, .slice a m cap] 24) = W1 := ⟨_, rfl⟩
  have hbox : W1.heap[W.heap.size]? = some (.cells #[.int .i64 6, .string ⟨s.toArray⟩, .int .i64 n, .slice a m cap] 24 (0, 0)) := by rw [← hW1]; exact World.alloc_heap_new W _
  have hb1 : base ≤ W1.heap.size := by rw [← hW1, World.size_alloc]; omega
  have HST1 : Hid (Step base bs v W1 W1) := Lib.hid (Step.start (by rw [← hW1]; exact h.alloc _))
  have HB1 : Hid (Below base W W1 ∧ Lib.OthersKept 5 none W W1) := Lib.hid (by rw [← hW1]; exact ⟨(Below.refl _ _).alloc hb _, (Lib.OthersKept.refl _ _ _).alloc _⟩)
  have HE : Hid (Env W1) := Lib.hid (henv.below HB1.out.1 h8)
  have HSZ := Lib.hid hsz
  have HW1 := Lib.hid hW1
  obtain ⟨c0, c1, c2, c3⟩ := cells_four hbox
  clear hW1 h henv
  go_enter Tryd.func26, Tryd.ntmps26
  go_upto_region 14 with (fail)
  rw [HW1.out]
  clear HW1
  go_region_held3 (fun w' => w'.cell? ⟨W.heap.size, 3, none⟩ = some (.slice a m cap))
    (first
      | go_keep
      | exact (cells_four (HS3.out.cell hbox (by decide))).2.2.2
      | exact (cells_four (HS2.out.cell hbox (by decide))).2.2.2)
    (first
      | (go_at_call 37; refine (withNumber_any base (bs ++ [42]) _ ((m : Int)) w2 HS2.out.buf (by have := HS2.out.below.size; omega) h8 (by simp only [List.length_append, List.length_singleton]; omega) (by omega) (by omega) (HE.out.below HS2.out.below h8)).mono ?_; rintro e w3 ⟨v3, rfl, hb3, hl3, ho3⟩; have HS3 := Lib.hid (HS2.out.call hb3 hl3 ho3); clear hb3 hl3 ho3)
      | (refine step_append_lies _ (by rfl) _ _ _ (by rfl) base 5 i0 _ 1 1 Tryd.underlying28 hi hz0 hz1 hz2 rfl (by omega) v bs.length (Lib.byteCells bs) (by rfl) ((HST1.out.buf.alloc _).drew) ⟨W1.heap.size, 0, none⟩ 1 1 [.int .u8 42] (by rfl) (by rfl) (World.news_of_block (cs := #[.int .u8 42]) (t := 5) (fr := (0, 0)) (World.alloc_heap_new W1 _)) (by simp [Value.oneCell']) (by omega) (by unfold maxLen; omega) (by omega) (by simp; omega) (W1.heap.size + 1) (by simp) ?_; intro gg capg w2 hown hgrow _ _; have HS2 : Hid (Step base (bs ++ [42]) (.slice (some ⟨gg, 0, none⟩) (bs.length + 1) capg) W1 w2) := Lib.hid (((HST1.out.alloc hb1 _).drew).grown hb1 hown hgrow rfl rfl); clear hown hgrow))
  have HLEN : Hid ((bs ++ [42] ++ Dig.dec ((m : Int))).length ≤ 2100000000000) := Lib.hid (by have := dec_len20 (n := (m : Int)) (by omega) (by omega); simp only [List.length_append, List.length_singleton]; omega)
  go_wp2_with (at_builtin; refine wpList_append_str rfl _ _ _ _ rfl base 5 i0 Tryd.underlying28 Tryd.underlying9 hi hz0 hz1 hz2 _ _ _ rfl HS3.out.buf ⟨#[13, 10]⟩ rfl ?c3 ?c4 ?c5 ?_)
  case c3 => have := HLEN.out; rw [show (⟨#[13, 10]⟩ : ByteArray).size = 2 from rfl]; simp only [List.length_append, List.length_cons, List.length_nil] at this ⊢; unfold maxLen; omega
  case c4 => have := HLEN.out; rw [show (⟨#[13, 10]⟩ : ByteArray).size = 2 from rfl]; simp only [List.length_append, List.length_cons, List.length_nil] at this ⊢; omega
  case c5 => have := HS3.out.below.size; omega
  intro v4 w4 hown hgrow
  have HS4 := Lib.hid (HS3.out.grown (cs := [13, 10]) (k := 2) (ys := Lib.strCells ⟨#[13, 10]⟩) hb1 (by simpa using hown) hgrow rfl rfl)
  clear hown hgrow
  go_wp2
  go_ret
  refine ⟨v4, rfl, ?_, HB1.out.1.trans HS4.out.below, HB1.out.2.trans HS4.out.others⟩
  have := HS4.out.buf
  simpa [Rp.own, Rp.crlf] using this

set_option maxRecDepth 100000 in
set_option maxHeartbeats 4000000 in
theorem own5 (base : Nat) (bs : List UInt8) (v : Value) (s : List UInt8) (n : Int) (a : Option Addr) (m cap : Nat) (W : World) (h : Buf base bs v W) (hb : base ≤ W.heap.size) (h8 : 8 ≤ base) (hl : bs.length ≤ 2000000000000) (_hs : s.length ≤ 1048576) (_hn0 : -9223372036854775808 ≤ n) (_hn1 : n ≤ 9223372036854775807) (_hm : m ≤ 281474976710656) (henv : Env W) :
    Calls Tryd.prog 26 #[v, rv 5 s n a m cap] W (BOut base (bs ++ Rp.own ⟨5, s, n, m⟩) W) := by
  obtain ⟨i0, hi, hz0, hz1, hz2⟩ := info_parts info5
  have hsz : (⟨s.toArray⟩ : ByteArray).size = s.length := by show s.toArray.size = _; simp
  unfold rv
  obtain ⟨W1, hW1⟩ : ∃ W1, W.alloc (.cells #[.int .i64 5, .string ⟨s.toArray⟩, .int .i64 n, .slice a m cap] 24) = W1 := ⟨_, rfl⟩
  have hbox : W1.heap[W.heap.size]? = some (.cells #[.int .i64 5, .string ⟨s.toArray⟩, .int .i64 n, .slice a m cap] 24 (0, 0)) := by rw [← hW1]; exact World.alloc_heap_new W _
  have hb1 : base ≤ W1.heap.size := by rw [← hW1, World.size_alloc]; omega
  have HST1 : Hid (Step base bs v W1 W1) := Lib.hid (Step.start (by rw [← hW1]; exact h.alloc _))
  have HB1 : Hid (Below base W W1 ∧ Lib.OthersKept 5 none W W1) := Lib.hid (by rw [← hW1]; exact ⟨(Below.refl _ _).alloc hb _, (Lib.OthersKept.refl _ _ _).alloc _⟩)
  have HE : Hid (Env W1) := Lib.hid (henv.below HB1.out.1 h8)
  have HSZ := Lib.hid hsz
  have HW1 := Lib.hid hW1
  obtain ⟨c0, c1, c2, c3⟩ := cells_four hbox
  clear hW1 h henv
  go_enter Tryd.func26, Tryd.ntmps26
  go_upto_region 12 with (fail)
  rw [HW1.out]
  clear HW1
  go_wp2_with (at_builtin; refine wpList_append_own _ rfl _ _ _ rfl base 5 i0 (.int .u8 0) 1 1 Tryd.underlying28 hi hz0 hz1 hz2 rfl (by decide) _ _ _ rfl (HST1.out.buf.alloc _) ⟨W1.heap.size, 0, none⟩ 1 1 [.int .u8 36] rfl rfl ?d1 ?d2 ?d3 ?d4 ?d5 ?_)
  case d1 => exact World.news_of_block (cs := #[.int .u8 36]) (t := 5) (fr := (0, 0)) (World.alloc_heap_new W1 _)
  case d2 => intro u hu; simp at hu; subst hu; rfl
  case d3 => unfold maxLen; omega
  case d4 => omega
  case d5 => simp; omega
  intro v2 w2 hown hgrow _
  have HS2 : Hid (Step base (bs ++ [36]) v2 W1 w2) := Lib.hid ((HST1.out.alloc hb1 _).grown hb1 hown hgrow rfl rfl)
  clear hown hgrow
  have HLEN : Hid ((bs ++ [36] ++ Dig.dec (-1)).length ≤ 2100000000000) := Lib.hid (by have := dec_len20 (n := -1) (by omega) (by omega); simp only [List.length_append, List.length_singleton]; omega)
  go_wp2_with (first
    | ((go_at_call 37; refine (withNumber_any base (bs ++ [36]) _ (-1) w2 HS2.out.buf (by have := HS2.out.below.size; omega) h8 (by simp only [List.length_append, List.length_singleton]; omega) (by omega) (by omega) (HE.out.below HS2.out.below h8)).mono ?_; rintro e w3 ⟨v3, rfl, hb3, hl3, ho3⟩; have HS3 := Lib.hid (HS2.out.call hb3 hl3 ho3); clear hb3 hl3 ho3))
    | (at_builtin; refine wpList_append_str rfl _ _ _ _ rfl base 5 i0 Tryd.underlying28 Tryd.underlying9 hi hz0 hz1 hz2 _ _ _ rfl HS3.out.buf ⟨#[13, 10]⟩ rfl ?c3 ?c4 ?c5 ?_))
  case c3 => have := HLEN.out; rw [show (⟨#[13, 10]⟩ : ByteArray).size = 2 from rfl]; simp only [List.length_append, List.length_cons, List.length_nil] at this ⊢; unfold maxLen; omega
  case c4 => have := HLEN.out; rw [show (⟨#[13, 10]⟩ : ByteArray).size = 2 from rfl]; simp only [List.length_append, List.length_cons, List.length_nil] at this ⊢; omega
  case c5 => have := HS3.out.below.size; omega
  intro v4 w4 hown hgrow
  have HS4 := Lib.hid (HS3.out.grown (cs := [13, 10]) (k := 2) (ys := Lib.strCells ⟨#[13, 10]⟩) hb1 (by simpa using hown) hgrow rfl rfl)
  clear hown hgrow
  go_wp2
  go_ret
  refine ⟨v4, rfl, ?_, HB1.out.1.trans HS4.out.below, HB1.out.2.trans HS4.out.others⟩
  have := HS4.out.buf
  simpa [Rp.own, Rp.crlf] using this

set_option maxRecDepth 100000 in
set_option maxHeartbeats 4000000 in
theorem own4 (base : Nat) (bs : List UInt8) (v : Value) (s : List UInt8) (n : Int) (a : Option Addr) (m cap : Nat) (W : World) (h : Buf base bs v W) (hb : base ≤ W.heap.size) (h8 : 8 ≤ base) (hl : bs.length ≤ 2000000000000) (hs : s.length ≤ 1048576) (_hn0 : -9223372036854775808 ≤ n) (_hn1 : n ≤ 9223372036854775807) (_hm : m ≤ 281474976710656) (henv : Env W) :
    Calls Tryd.prog 26 #[v, rv 4 s n a m cap] W (BOut base (bs ++ Rp.own ⟨4, s, n, m⟩) W) := by
  obtain ⟨i0, hi, hz0, hz1, hz2⟩ := info_parts info5
  have hsz : (⟨s.toArray⟩ : ByteArray).size = s.length := by show s.toArray.size = _; simp
  unfold rv
  obtain ⟨W1, hW1⟩ : ∃ W1, W.alloc (.cells #[.int .i64 4, .string ⟨s.toArray⟩, .int .i64 n, .slice a m cap] 24) = W1 := ⟨_, rfl⟩
  have hbox : W1.heap[W.heap.size]? = some (.cells #[.int .i64 4, .string ⟨s.toArray⟩, .int .i64 n, .slice a m cap] 24 (0, 0)) := by rw [← hW1]; exact World.alloc_heap_new W _
  have hb1 : base ≤ W1.heap.size := by rw [← hW1, World.size_alloc]; omega
  have HST1 : Hid (Step base bs v W1 W1) := Lib.hid (Step.start (by rw [← hW1]; exact h.alloc _))
  have HB1 : Hid (Below base W W1 ∧ Lib.OthersKept 5 none W W1) := Lib.hid (by rw [← hW1]; exact ⟨(Below.refl _ _).alloc hb _, (Lib.OthersKept.refl _ _ _).alloc _⟩)
  have HE : Hid (Env W1) := Lib.hid (henv.below HB1.out.1 h8)
  have HSZ := Lib.hid hsz
  have HW1 := Lib.hid hW1
  obtain ⟨c0, c1, c2, c3⟩ := cells_four hbox
  clear hW1 h henv
  go_enter Tryd.func26, Tryd.ntmps26
  go_upto_region 9 with (fail)
  rw [HW1.out]
  clear HW1
  go_region_held3 (fun w' => w'.cell? ⟨W.heap.size, 1, none⟩ = some (.string ⟨s.toArray⟩))
    (first
      | go_keep
      | exact (cells_four (HS3.out.cell hbox (by decide))).2.1
      | exact (cells_four (HS2.out.cell hbox (by decide))).2.1)
    (first
      | (go_at_call 37; refine (withNumber_any base (bs ++ [36]) _ ((s.length : Int)) w2 HS2.out.buf (by have := HS2.out.below.size; omega) h8 (by simp only [List.length_append, List.length_singleton]; omega) (by omega) (by omega) (HE.out.below HS2.out.below h8)).mono ?_; rintro e w3 ⟨v3, rfl, hb3, hl3, ho3⟩; have HS3 := Lib.hid (HS2.out.call hb3 hl3 ho3); clear hb3 hl3 ho3)
      | (refine step_append_lies _ (by rfl) _ _ _ (by rfl) base 5 i0 _ 1 1 Tryd.underlying28 hi hz0 hz1 hz2 rfl (by omega) v bs.length (Lib.byteCells bs) (by rfl) ((HST1.out.buf.alloc _).drew) ⟨W1.heap.size, 0, none⟩ 1 1 [.int .u8 36] (by rfl) (by rfl) (World.news_of_block (cs := #[.int .u8 36]) (t := 5) (fr := (0, 0)) (World.alloc_heap_new W1 _)) (by simp [Value.oneCell']) (by omega) (by unfold maxLen; omega) (by omega) (by simp; omega) (W1.heap.size + 1) (by simp) ?_; intro gg capg w2 hown hgrow _ _; have HS2 : Hid (Step base (bs ++ [36]) (.slice (some ⟨gg, 0, none⟩) (bs.length + 1) capg) W1 w2) := Lib.hid (((HST1.out.alloc hb1 _).drew).grown hb1 hown hgrow rfl rfl); clear hown hgrow))
  have HLEN0 : Hid ((bs ++ [36] ++ Dig.dec s.length).length ≤ 2100000000000) := Lib.hid (by have := dec_len20 (n := s.length) (by omega) (by omega); simp only [List.length_append, List.length_singleton]; omega)
  have HBOX3 : Hid (w3.heap[W.heap.size]? = some (.cells #[.int .i64 4, .string ⟨s.toArray⟩, .int .i64 n, .slice a m cap] 24 (0, 0))) := Lib.hid (HS3.out.cell hbox (by decide))
  have HB3 : Hid (base ≤ w3.heap.size ∧ Below base W1 w3 ∧ Lib.OthersKept 5 none W1 w3) := Lib.hid ⟨by have := HS3.out.below.size; omega, HS3.out.below, HS3.out.others⟩
  have HST3 : Hid (Step base (bs ++ [36] ++ Dig.dec s.length) v3 w3 w3) := Lib.hid (Step.start HS3.out.buf)
  clear HS2 HS3 HST1 hbox c0 c1 c2 c3
  obtain ⟨c0, c1, c2, c3⟩ := cells_four HBOX3.out
  have hbox := HBOX3.out
  obtain ⟨hb3, -, -⟩ := HB3.out
  generalize hbs : bs ++ [36] ++ Dig.dec s.length = bs3 at HST3 HLEN0
  have HBS := Lib.hid hbs
  have hl3 := HLEN0.out
  clear hbs
  go_upto_region 10 with (fail)
  go_region_held3 (fun w' => w'.cell? ⟨W.heap.size, 1, none⟩ = some (.string ⟨s.toArray⟩))
    (first
      | go_keep
      | exact (cells_four (HS5.out.cell hbox (by decide))).2.1
      | exact (cells_four (HS4.out.cell hbox (by decide))).2.1)
    (first
      | (refine step_append_str (by rfl) _ _ _ _ (by rfl) base 5 i0 Tryd.underlying28 Tryd.underlying9 hi hz0 hz1 hz2 _ _ _ (by rfl) HS4.out.buf ⟨s.toArray⟩ ?g1 ?g2 ?g3 ?g4 ?g5
         case g1 => rfl
         case g2 => (rw [HSZ.out, List.length_append]; unfold maxLen; have : ([13, 10] : List UInt8).length = 2 := rfl; omega)
         case g3 => (rw [HSZ.out, List.length_append]; have : ([13, 10] : List UInt8).length = 2 := rfl; omega)
         case g4 => (have := HS4.out.below.size; omega)
         intro v5 w5 hown hgrow
         have HS5 : Hid (Step base (bs3 ++ [13, 10] ++ s) v5 w3 w5) := Lib.hid (HS4.out.grown hb3 hown hgrow HSZ.out (by simp [Lib.byteCells, Lib.strCells]))
         clear hown hgrow)
      | (refine step_append_str (by rfl) _ _ _ _ (by rfl) base 5 i0 Tryd.underlying28 Tryd.underlying9 hi hz0 hz1 hz2 _ _ _ (by rfl) (HST3.out.drew).buf ⟨#[13, 10]⟩ ?h1 ?h2 ?h3 ?h4 ?h5
         case h1 => rfl
         case h2 => (rw [show (⟨#[13, 10]⟩ : ByteArray).size = 2 from rfl]; unfold maxLen; omega)
         case h3 => (rw [show (⟨#[13, 10]⟩ : ByteArray).size = 2 from rfl]; omega)
         case h4 => exact hb3
         intro v4 w4 hown hgrow
         have HS4 : Hid (Step base (bs3 ++ [13, 10]) v4 w3 w4) := Lib.hid ((HST3.out.drew).grown hb3 hown hgrow rfl rfl)
         clear hown hgrow))
  go_wp2_with (at_builtin; refine wpList_append_str rfl _ _ _ _ rfl base 5 i0 Tryd.underlying28 Tryd.underlying9 hi hz0 hz1 hz2 _ _ _ rfl HS5.out.buf ⟨#[13, 10]⟩ rfl ?c3 ?c4 ?c5 ?_)
  case c3 => rw [show (⟨#[13, 10]⟩ : ByteArray).size = 2 from rfl]; simp only [List.length_append, List.length_cons, List.length_nil]; unfold maxLen; omega
  case c4 => rw [show (⟨#[13, 10]⟩ : ByteArray).size = 2 from rfl]; simp only [List.length_append, List.length_cons, List.length_nil]; omega
  case c5 => have := HS5.out.below.size; omega
  intro v6 w6 hown hgrow
  have HS6 := Lib.hid (HS5.out.grown (cs := [13, 10]) (k := 2) (ys := Lib.strCells ⟨#[13, 10]⟩) hb3 (by simpa using hown) hgrow rfl rfl)
  clear hown hgrow
  go_wp2
  go_ret
  refine ⟨v6, rfl, ?_, HB1.out.1.trans (HB3.out.2.1.trans HS6.out.below), HB1.out.2.trans (HB3.out.2.2.trans HS6.out.others)⟩
  have := HS6.out.buf
  rw [← HBS.out] at this
  simpa [Rp.own, Rp.crlf] using this

/-- resp.withOwn, of a reply that may stand so. -/
theorem withOwn_any (base : Nat) (bs : List UInt8) (v : Value) (h : Rp.H) (a : Option Addr) (cap : Nat) (W : World) (hbuf : Buf base bs v W) (hb : base ≤ W.heap.size) (h8 : 8 ≤ base) (hl : bs.length ≤ 2000000000000) (hf : Fit h.k h.s h.n h.m cap) (hs : h.s.length ≤ 1048576) (hk : 1 ≤ h.k ∧ h.k ≤ 6) (henv : Env W) :
    Calls Tryd.prog 26 #[v, rv h.k h.s h.n a h.m cap] W (BOut base (bs ++ Rp.own h) W) := by
  obtain ⟨k, s, n, m⟩ := h
  obtain ⟨f1, f2, f3, f4, f5, f6, f7⟩ := hf
  simp only at *
  have : k = 1 ∨ k = 2 ∨ k = 3 ∨ k = 4 ∨ k = 5 ∨ k = 6 := by omega
  rcases this with rfl | rfl | rfl | rfl | rfl | rfl
  · exact own1 base bs v s n a m cap W hbuf hb h8 hl hs f3 f4 (by omega) henv
  · exact own2 base bs v s n a m cap W hbuf hb h8 hl hs f3 f4 (by omega) henv
  · exact own3 base bs v s n a m cap W hbuf hb h8 hl hs f3 f4 (by omega) henv
  · exact own4 base bs v s n a m cap W hbuf hb h8 hl hs f3 f4 (by omega) henv
  · exact own5 base bs v s n a m cap W hbuf hb h8 hl hs f3 f4 (by omega) henv
  · exact own6 base bs v s n a m cap W hbuf hb h8 hl hs f3 f4 (by omega) henv
end Go.Proofs.YtcjbfgkmpoebgaaDoor
