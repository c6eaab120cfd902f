/- The walk of the law TextAll. -/
import Derived.Test.YtdhcgclchdnmfaaDoorTxAdd
import Derived.Test.YtdhcgclchdnmfaaDoorTxAwake
import Derived.Test.YtdhcgclchdnmfaaDoorTxPut
import Derived.Test.YtdhcgclchdnmfaaDoorTxRefAdd
import Derived.Test.YtdhcgclchdnmfaaDoorTxRefSub
import Derived.Test.YtdhcgclchdnmfaaDoorTxRefPut
namespace Go.Proofs.YtdhcgclchdnmfaaDoor
open Go.RowKit Go.Shelf
set_option linter.unusedVariables false
set_option linter.unusedSimpArgs false

set_option maxRecDepth 100000 in
set_option maxHeartbeats 8000000 in
theorem textAll_go (s : List UInt8) (a b : Int) (v : List UInt8) (w : World) (ht : Tab w) (hs : s.length ≤ 9223372036854775807) (hv : v.length ≤ 9223372036854775807) (a0 : -9223372036854775808 ≤ a) (a1 : a ≤ 9223372036854775807) (b0 : -9223372036854775808 ≤ b) (b1 : b ≤ 9223372036854775807) :
    Calls Tryd.prog 3 #[.string ⟨s.toArray⟩, .int .i64 a, .int .i64 b, .string ⟨v.toArray⟩] w fun e W => e = .returned (.bool true) ∧ Below w.heap.size w W := by
  have hsI : (s.length : Int) ≤ 9223372036854775807 := by omega
  have hvI : (v.length : Int) ≤ 9223372036854775807 := by omega
  have HT0 := Lib.hid ht
  clear ht
  by_cases hlong : 700 < s.length ∨ 700 < v.length
  · have hlong2 : (700 : Int) < s.length ∨ ((s.length : Int) ≤ 700 ∧ (700 : Int) < v.length) := by omega
    rcases hlong2 with g | ⟨g, g2⟩
    all_goals
      go_enter Tryd.func3, Tryd.ntmps3
      go_wp2_with (first
        | (go_at_call 6; refine (awake_any _).mono ?_; rintro e w4 ⟨rfl, hb⟩; have HB4 := Lib.hid hb; clear hb))
      go_ret
      exact ⟨rfl, HB4.out⟩
  · have hs7 : (s.length : Int) ≤ 700 := by omega
    have hv7 : (v.length : Int) ≤ 700 := by omega
    have c1 := fun W => number_any s W (by omega)
    have c2 := fun W => refNum_any s W (by omega)
    have c3 := fun W => put_any s a v W (by omega) (by omega) a0 a1
    have c4 := fun W => refPut_any s a v W (by omega) (by omega) a0 a1
    have c5 := fun W hT => add_any s a W hT (by omega) a0 a1
    have c6 := fun W => refAdd_any s a W (by omega) a0 a1
    have c7 := fun W => sub_any s a b W (by omega) a0 a1 b0 b1
    have c8 := fun W => refSub_any s a b W (by omega) a0 a1 b0 b1
    have hxr : -9223372036854775808 ≤ (Tx.numS s).1 ∧ (Tx.numS s).1 ≤ 9223372036854775807 := by
      cases hp : (Tx.numS s).2 with
      | true => exact (Tx.num_is (Prod.ext rfl hp)).2
      | false => rw [Tx.num_no hp]; exact ⟨by decide, by decide⟩
    unfold NumOut at c2
    unfold SaidOut at c4 c6
    generalize (Tx.numS s).1 = xn at *
    generalize (Tx.numS s).2 = xb at *
    generalize (Tx.putS s a v).1 = p at *
    generalize (Tx.putS s a v).2 = pb at *
    generalize (Tx.addS s a).1 = q at *
    generalize (Tx.addS s a).2 = qb at *
    generalize Tx.subS s a b = u at *
    obtain ⟨x0, x1⟩ := hxr
    have HS := Lib.hid (And.intro c1 (And.intro c2 (And.intro c3 (And.intro c4 (And.intro c5 (And.intro c6 (And.intro c7 c8)))))))
    clear c1 c2 c3 c4 c5 c6 c7 c8 hlong
    go_enter Tryd.func3, Tryd.ntmps3
    go_wp2_with fail
    refine (HS.out.1 _).mono ?_
    rintro e w0 ⟨rfl, rfl⟩
    go_wp2_with fail
    refine (HS.out.2.1 _).mono ?_
    rintro e w1 ⟨rfl, hb⟩
    have HB1 := Lib.hid hb
    clear hb
    go_upto_region 5 with (fail)
    obtain ⟨w2, hw2⟩ : ∃ w2, w1.alloc (.cells #[.int .i64 xn, .bool xb] 26) = w2 := ⟨_, rfl⟩
    have hX : Box2 w2 w1.heap.size 26 (.int .i64 xn) (.bool xb) := by rw [← hw2]; exact Box2.new w1 _ _ _
    have hb : Below w1.heap.size w1 w2 := by rw [← hw2]; exact (Below.refl _ w1).alloc (Nat.le_refl _) _
    rw [hw2]
    have HX2 := Lib.hid hX
    have HB2 := Lib.hid (HB1.out.trans (hb.mono HB1.out.size))
    clear hb hw2 hX
    go_wp2_with fail
    refine (HS.out.2.2.1 _).mono ?_
    rintro e w3 ⟨rfl, hb⟩
    have HX3 := Lib.hid (HX2.out.later hb)
    have HB3 := Lib.hid (HB2.out.trans (hb.mono HB2.out.size))
    clear hb
    go_wp2_with fail
    refine (HS.out.2.2.2.1 _).mono ?_
    rintro e w4 ⟨rfl, hb⟩
    have HX4 := Lib.hid (HX3.out.later hb)
    have HB4 := Lib.hid (HB3.out.trans (hb.mono HB3.out.size))
    clear hb
    go_upto_region 7 with (fail)
    obtain ⟨w5, hw5⟩ : ∃ w5, w4.alloc (.cells #[.string ⟨p.toArray⟩, .bool pb] 31) = w5 := ⟨_, rfl⟩
    have hY : Box2 w5 w4.heap.size 31 (.string ⟨p.toArray⟩) (.bool pb) := by rw [← hw5]; exact Box2.new w4 _ _ _
    have hb : Below w4.heap.size w4 w5 := by rw [← hw5]; exact (Below.refl _ w4).alloc (Nat.le_refl _) _
    rw [hw5]
    have HY5 := Lib.hid hY
    have HX5 := Lib.hid (HX4.out.later hb)
    have HB5 := Lib.hid (HB4.out.trans (hb.mono HB4.out.size))
    clear hb hw5 hY
    go_wp2_with fail
    refine (HS.out.2.2.2.2.1 _ (tab_later HT0.out HB5.out)).mono ?_
    rintro e w6 ⟨rfl, hb⟩
    have HX6 := Lib.hid (HX5.out.later hb)
    have HY6 := Lib.hid (HY5.out.later hb)
    have HB6 := Lib.hid (HB5.out.trans (hb.mono HB5.out.size))
    clear hb
    go_wp2_with fail
    refine (HS.out.2.2.2.2.2.1 _).mono ?_
    rintro e w7 ⟨rfl, hb⟩
    have HX7 := Lib.hid (HX6.out.later hb)
    have HY7 := Lib.hid (HY6.out.later hb)
    have HB7 := Lib.hid (HB6.out.trans (hb.mono HB6.out.size))
    clear hb
    go_upto_region 9 with (fail)
    obtain ⟨w8, hw8⟩ : ∃ w8, w7.alloc (.cells #[.string ⟨q.toArray⟩, .bool qb] 31) = w8 := ⟨_, rfl⟩
    have hZ : Box2 w8 w7.heap.size 31 (.string ⟨q.toArray⟩) (.bool qb) := by rw [← hw8]; exact Box2.new w7 _ _ _
    have hb : Below w7.heap.size w7 w8 := by rw [← hw8]; exact (Below.refl _ w7).alloc (Nat.le_refl _) _
    rw [hw8]
    have HZ8 := Lib.hid hZ
    have HX8 := Lib.hid (HX7.out.later hb)
    have HY8 := Lib.hid (HY7.out.later hb)
    have HB8 := Lib.hid (HB7.out.trans (hb.mono HB7.out.size))
    clear hb hw8 hZ
    obtain ⟨x80, x81, _, _⟩ := HX8.out.at
    obtain ⟨y80, y81, _, _⟩ := HY8.out.at
    obtain ⟨z80, z81, _, _⟩ := HZ8.out.at
    go_wp2_with fail
    refine (HS.out.2.2.2.2.2.2.1 _).mono ?_
    rintro e w9 ⟨rfl, hb⟩
    have HZ9 := Lib.hid (HZ8.out.later hb)
    have HX9 := Lib.hid (HX8.out.later hb)
    have HY9 := Lib.hid (HY8.out.later hb)
    have HB9 := Lib.hid (HB8.out.trans (hb.mono HB8.out.size))
    clear hb x80 x81 y80 y81 z80 z81
    obtain ⟨x90, x91, _, _⟩ := HX9.out.at
    obtain ⟨y90, y91, _, _⟩ := HY9.out.at
    obtain ⟨z90, z91, _, _⟩ := HZ9.out.at
    go_wp2_with fail
    refine (HS.out.2.2.2.2.2.2.2 _).mono ?_
    rintro e w10 ⟨rfl, rfl⟩
    go_wp2_with fail
    refine (awake_any _).mono ?_
    rintro e w11 ⟨rfl, hb⟩
    have HB11 := Lib.hid (HB9.out.trans (hb.mono HB9.out.size))
    clear hb
    go_wp2_with fail
    go_ret
    exact ⟨rfl, HB11.out⟩
end Go.Proofs.YtdhcgclchdnmfaaDoor
