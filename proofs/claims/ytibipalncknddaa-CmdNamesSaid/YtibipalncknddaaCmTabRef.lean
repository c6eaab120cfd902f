/- The contract of the reference's Specs. -/
import Derived.Test.YtibipalncknddaaCmSpecs
namespace Go.Proofs.Ytibipalncknddaa
open Go.RowKit Go.Shelf

theorem spTab_new (w : World) (A : Array Value) (h : A = (Cm.tab.flatMap spL).toArray) : SpTab (w.alloc (.cells A 26)) w.heap.size Cm.tab := by
  subst h
  exact World.alloc_heap_new w _

theorem oper_wp_value {P : Program} {o : Oper} {a : Act} {w w' : World} {K : Act → World → Prop} {Q : Exit → Act → World → Prop} {v : Value} (h : (execOp a.eval o).run P w = .ok (.value v) w') (hk : K (a.put o.dst v) w') : Oper.wp P o a w K Q := by
  unfold Oper.wp
  rw [h]
  exact hk

set_option maxRecDepth 100000 in
set_option maxHeartbeats 8000000 in
theorem specs_any (w : World) : Calls Try.prog 24 #[] w fun e W' => ∃ b, e = .returned (.slice (some ⟨b, 0, none⟩) 54 54) ∧ SpTab W' b Cm.tab ∧ Below w.heap.size w W' := by
  have HB := Lib.hid (Below.refl w.heap.size w)
  go_enter Try.func24, Try.ntmps24
  go_wp2_with (first
    | (go_at_call 37; refine (one_any _ _ _ _ _).mono ?_; rintro e wn ⟨rfl, hb⟩; have HB' := Lib.hid (HB.out.trans (hb.mono HB.out.size)); clear hb HB; have HB := HB'; clear HB')
    | (go_at_call 36; refine (spec_any _ _ _ _ _ _ _ _).mono ?_; rintro e wn ⟨rfl, hb⟩; have HB' := Lib.hid (HB.out.trans (hb.mono HB.out.size)); clear hb HB; have HB := HB'; clear HB'))
  refine oper_wp_value (v := .slice (some ⟨wn.heap.size, 0, none⟩) 54 54) (w' := wn.alloc (.cells (Cm.tab.flatMap spL).toArray 26)) (by kernel_rfl) ?_
  obtain ⟨w9, hw9⟩ : ∃ w9, wn.alloc (.cells (Cm.tab.flatMap spL).toArray 26) = w9 := ⟨_, rfl⟩
  have ht : SpTab w9 wn.heap.size Cm.tab := by rw [← hw9]; exact spTab_new _ _ rfl
  have hb9 : Below w.heap.size w w9 := by rw [← hw9]; exact HB.out.alloc HB.out.size _
  rw [hw9]
  have HT := Lib.hid ht
  have HB9 := Lib.hid hb9
  clear hw9 ht hb9
  go_wp2
  go_ret
  exact ⟨_, rfl, HT.out, HB9.out⟩

end Go.Proofs.Ytibipalncknddaa
