/- The contract of the reference's Keys; the walk of the statement CmdAll. -/
import Derived.Test.YtibipalncknddaaCmRefCheck
namespace Go.Proofs.Ytibipalncknddaa
open Go.RowKit Go.Shelf

set_option maxRecDepth 100000 in
set_option maxHeartbeats 2000000 in
theorem refKeys_any (a : Option Addr) (cap : Nat) (ws : List (List UInt8)) (w : World) (hW : Wds w a cap ws) : Calls Try.prog 15 #[.slice a ws.length cap] w (KOut w (Cm.keysOf ws)) := by
  have hck := refCheck_any a cap ws w hW
  unfold chkV at hck
  have HW := Lib.hid hW
  clear hW
  cases hc : Cm.checkS ws with
  | none =>
    rw [hc] at hck
    rw [Cm.keysOf_none hc]
    have HK := Lib.hid hck
    clear hc hck
    go_enter Try.func15, Try.ntmps15
    go_wp2_with (go_at_call 10; refine HK.out.mono ?_; rintro e w1 ⟨rfl, hb1⟩; have HB1 := Lib.hid hb1; clear hb1; simp only [spV, zeroSp])
    go_ret
    exact ⟨_, _, rfl, wds_nil _, HB1.out.alloc HB1.out.size _⟩
  | some s =>
    rw [hc] at hck
    rw [Cm.keysOf_some hc]
    obtain ⟨h0, h1, hf, hcn⟩ := Cm.check_parts hc
    have hky := fun W (h : Below w.heap.size w W) => refKeysBy_any s a cap ws W (HW.out.later h) (by omega) (Cm.findS_ok hf) (Cm.countOk_least hcn)
    have HK := Lib.hid hck
    have HKy := Lib.hid hky
    clear hc hck hky hf hcn h0 h1
    obtain ⟨nm, least, most, first, last, step, wb⟩ := s
    simp only [spV] at HKy HK
    go_enter Try.func15, Try.ntmps15
    go_wp2_with fail
    refine HK.out.mono ?_
    rintro e w1 ⟨rfl, hb1⟩
    have HB1 := Lib.hid hb1
    clear hb1
    go_wp2_with fail
    refine (HKy.out _ (HB1.out.alloc HB1.out.size _)).mono ?_
    rintro e w2 ⟨a', c', rfl, hwd, hb2⟩
    have HWd := Lib.hid hwd
    have HB2 := Lib.hid ((HB1.out.alloc HB1.out.size _).trans (hb2.mono (by have := HB1.out.size; simp; omega)))
    clear hwd hb2
    go_wp2
    go_ret
    exact ⟨a', c', rfl, HWd.out, HB2.out⟩

theorem spec_eql (nm : List UInt8) (a b c d f : Int) (g : Bool) (w : World) :
    (binOp .eql 26 (.agg #[.string ⟨nm.toArray⟩, .int .i64 a, .int .i64 b, .int .i64 c, .int .i64 d, .int .i64 f, .bool g]) (.agg #[.string ⟨nm.toArray⟩, .int .i64 a, .int .i64 b, .int .i64 c, .int .i64 d, .int .i64 f, .bool g])).run Try.prog w = .ok (.bool true) w := by
  have u3 := Try.underlying3
  have u4 := Try.underlying4
  have u9 := Try.underlying9
  have a3 := Try.isAgg3
  have z3 := Try.sizeOf3
  have a4 := Try.isAgg4
  have z4 := Try.sizeOf4
  have a9 := Try.isAgg9
  have z9 := Try.sizeOf9
  have hS : Try.prog.underlying 26 = some (.struct (Try.prog.fieldsOf 26)) := by kernel_rfl
  have hp : Try.prog.stoodInHeld 26 = false := by kernel_rfl
  rw [run_eql_struct, show (10000 : Nat) = 9999 + 1 from rfl, run_equalIn_agg w 9999 26 _ _ hS hp]
  simp only [Program.fieldsOf, Try.underlying26]
  go_simp

theorem chkV_is (ws : List (List UInt8)) : ∃ (nm : List UInt8) (a b c d f : Int) (g o : Bool), chkV ws = .tuple #[.agg #[.string ⟨nm.toArray⟩, .int .i64 a, .int .i64 b, .int .i64 c, .int .i64 d, .int .i64 f, .bool g], .bool o] := by
  unfold chkV
  split <;> exact ⟨_, _, _, _, _, _, _, _, rfl⟩
theorem findV_is (n : List UInt8) : ∃ (nm : List UInt8) (a b c d f : Int) (g o : Bool), findV n = .tuple #[.agg #[.string ⟨nm.toArray⟩, .int .i64 a, .int .i64 b, .int .i64 c, .int .i64 d, .int .i64 f, .bool g], .bool o] := by
  unfold findV
  split <;> exact ⟨_, _, _, _, _, _, _, _, rfl⟩

/-- a row in a block of cells. -/
def SpCells (w : World) (B : Nat) (nm : List UInt8) (a b c d f : Int) (g : Bool) : Prop :=
  w.cell? ⟨B, 0, none⟩ = some (.string ⟨nm.toArray⟩) ∧ w.cell? ⟨B, 1, none⟩ = some (.int .i64 a) ∧ w.cell? ⟨B, 2, none⟩ = some (.int .i64 b) ∧ w.cell? ⟨B, 3, none⟩ = some (.int .i64 c) ∧ w.cell? ⟨B, 4, none⟩ = some (.int .i64 d) ∧ w.cell? ⟨B, 5, none⟩ = some (.int .i64 f) ∧ w.cell? ⟨B, 6, none⟩ = some (.bool g)

theorem spCells_new (w : World) (nm : List UInt8) (a b c d f : Int) (g : Bool) : SpBox (w.alloc (.cells #[.string ⟨nm.toArray⟩, .int .i64 a, .int .i64 b, .int .i64 c, .int .i64 d, .int .i64 f, .bool g] 26)) w.heap.size ⟨nm, a, b, c, d, f, g⟩ := World.alloc_heap_new w _

set_option maxRecDepth 100000 in
set_option maxHeartbeats 4000000 in
theorem cmdAll_walk (a : Option Addr) (cap : Nat) (ws : List (List UInt8)) (n : List UInt8) (w : World) (hW : Wds w a cap ws) (hn : n.length ≤ 9223372036854775807) :
    Calls Try.prog 3 #[.slice a ws.length cap, .string ⟨n.toArray⟩] w fun e w' => e = .returned (.bool true) ∧ Below w.heap.size w w' := by
  have hg := great_any a cap ws w hW
  have HG := Lib.hid hg
  have hnI : (n.length : Int) ≤ 9223372036854775807 := by omega
  have HW := Lib.hid hW
  clear hg hW
  go_enter Try.func3, Try.ntmps3
  go_wp2_with fail
  refine HG.out.mono ?_
  rintro e w1 ⟨(rfl | ⟨rfl, hw120⟩), rfl⟩
  · go_wp2_with (go_at_call 8; refine (awake_any _).mono ?_; rintro e w2 ⟨rfl, hb⟩; have HB := Lib.hid hb; clear hb)
    go_ret
    exact ⟨rfl, HB.out⟩
  · by_cases hlong : 100 < n.length
    · have h1 : (100 : Int) < (n.length : Int) := by omega
      go_wp2_with (go_at_call 8; refine (awake_any _).mono ?_; rintro e w2 ⟨rfl, hb⟩; have HB := Lib.hid hb; clear hb)
      go_ret
      exact ⟨rfl, HB.out⟩
    · have h1 : (n.length : Int) ≤ 100 := by omega
      have hc1 := fun W (h : Below w.heap.size w W) => check_c a cap ws W (HW.out.later h)
      have hc2 := fun W (h : Below w.heap.size w W) => refCheck_any a cap ws W (HW.out.later h)
      have hf1 := fun W => find_c n W hn
      have hf2 := fun W => refFind_any n W hn
      obtain ⟨nm, a1, b1, c1, d1, f1, g1, o1, hcv⟩ := chkV_is ws
      obtain ⟨nm2, a2, b2, c2, d2, f2, g2, o2, hfv⟩ := findV_is n
      rw [hcv] at hc1 hc2
      rw [hfv] at hf1 hf2
      have H1 := Lib.hid hc1
      have H2 := Lib.hid hc2
      have H3 := Lib.hid hf1
      have H4 := Lib.hid hf2
      have hk1 := fun W (h : Below w.heap.size w W) => keys_c a cap ws W (HW.out.later h)
      have hk2 := fun W (h : Below w.heap.size w W) => refKeys_any a cap ws W (HW.out.later h)
      have HK1 := Lib.hid hk1
      have HK2 := Lib.hid hk2
      have hq1 := fun W => spec_eql nm a1 b1 c1 d1 f1 g1 W
      have hq2 := fun W => spec_eql nm2 a2 b2 c2 d2 f2 g2 W
      clear hc1 hc2 hf1 hf2 hcv hfv hk1 hk2 hlong hw120
      generalize Cm.keysOf ws = ks at *
      generalize ws.length = lw at *
      go_wp2_with fail
      refine (H1.out _ (Below.refl _ _)).mono ?_
      rintro e w2 ⟨rfl, hb2⟩
      have HB2 := Lib.hid hb2
      have HS2 := Lib.hid (spCells_new w2 nm a1 b1 c1 d1 f1 g1)
      clear hb2
      go_wp2_with fail
      refine (H2.out _ (HB2.out.alloc HB2.out.size _)).mono ?_
      rintro e w3 ⟨rfl, hb3⟩
      have HB3 := Lib.hid ((HB2.out.alloc HB2.out.size _).trans (hb3.mono (by have := HB2.out.size; simp; omega)))
      have HS3 : Hid (SpBox w3 w2.heap.size ⟨nm, a1, b1, c1, d1, f1, g1⟩) := Lib.hid ((hb3.block _ HS2.out.lt).trans HS2.out)
      have HT3 := Lib.hid (spCells_new w3 nm a1 b1 c1 d1 f1 g1)
      clear hb3
      go_wp2_with fail
      refine (H3.out _).mono ?_
      rintro e w4 ⟨rfl, hb4⟩
      have HB4 := Lib.hid ((HB3.out.alloc HB3.out.size _).trans (hb4.mono (by have := HB3.out.size; simp; omega)))
      have hk34 : Keeps (fun _ => True) w3 w4 := ((Keeps.refl _ w3).alloc _).trans (Keeps.of_below hb4 fun k h _ => h)
      have HS4 : Hid (SpBox w4 w2.heap.size ⟨nm, a1, b1, c1, d1, f1, g1⟩) := Lib.hid (hk34.heap HS3.out trivial)
      have HT4 : Hid (SpBox w4 w3.heap.size ⟨nm, a1, b1, c1, d1, f1, g1⟩) := Lib.hid ((hb4.block _ HT3.out.lt).trans HT3.out)
      have HU4 := Lib.hid (spCells_new w4 nm2 a2 b2 c2 d2 f2 g2)
      clear hb4 hk34
      go_wp2_with fail
      refine (H4.out _).mono ?_
      rintro e w5 ⟨rfl, hb5⟩
      have HB5 := Lib.hid ((HB4.out.alloc HB4.out.size _).trans (hb5.mono (by have := HB4.out.size; simp; omega)))
      have hk45 : Keeps (fun _ => True) w4 w5 := ((Keeps.refl _ w4).alloc _).trans (Keeps.of_below hb5 fun k h _ => h)
      have s5 : SpBox w5 w2.heap.size ⟨nm, a1, b1, c1, d1, f1, g1⟩ := hk45.heap HS4.out trivial
      have t5 : SpBox w5 w3.heap.size ⟨nm, a1, b1, c1, d1, f1, g1⟩ := hk45.heap HT4.out trivial
      have u5 : SpBox w5 w4.heap.size ⟨nm2, a2, b2, c2, d2, f2, g2⟩ := (hb5.block _ HU4.out.lt).trans HU4.out
      obtain ⟨s50, s51, s52, s53, s54, s55, s56⟩ := s5.at
      obtain ⟨t50, t51, t52, t53, t54, t55, t56⟩ := t5.at
      obtain ⟨u50, u51, u52, u53, u54, u55, u56⟩ := u5.at
      simp only [Nat.zero_add] at s50 s51 s52 s53 s54 s55 s56 t50 t51 t52 t53 t54 t55 t56 u50 u51 u52 u53 u54 u55 u56
      have l1 := s5.lt
      have l2 := t5.lt
      have l3 := u5.lt
      clear hb5 hk45 s5 t5 u5
      go_wp2_with fail
      refine (HK1.out _ (HB5.out.alloc HB5.out.size _)).mono ?_
      rintro e w6 ⟨a6, c6, rfl, hwd6, hb6⟩
      have HB6 := Lib.hid ((HB5.out.alloc HB5.out.size _).trans (hb6.mono (by have := HB5.out.size; simp; omega)))
      have HW6 := Lib.hid hwd6
      clear hb6 hwd6
      go_wp2_with fail
      refine (HK2.out _ HB6.out).mono ?_
      rintro e w7 ⟨a7, c7, rfl, hwd7, hb7⟩
      have HB7 := Lib.hid (HB6.out.trans (hb7.mono HB6.out.size))
      have htx := texts_any a6 a7 c6 c7 ks ks w7 rfl (HW6.out.later hb7) hwd7
      rw [decide_eq_true (rfl : ks = ks)] at htx
      have HTx := Lib.hid htx
      clear hb7 hwd7 htx
      go_wp2_with fail
      refine HTx.out.mono ?_
      rintro e w8 ⟨rfl, hb8⟩
      have HB8 := Lib.hid (HB7.out.trans (hb8.mono HB7.out.size))
      clear hb8
      go_wp2_with (go_at_call 8; refine (awake_any _).mono ?_; rintro e w9 ⟨rfl, hb⟩; have HB9 := Lib.hid (HB8.out.trans (hb.mono HB8.out.size)); clear hb)
      go_ret
      exact ⟨rfl, HB9.out⟩

end Go.Proofs.Ytibipalncknddaa
