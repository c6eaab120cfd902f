/- The contract of the reference's more: a claim behind the last one, or as a part of it. -/
import Derived.Test.YtchladbjhodkoaaOwRef
namespace Go.Proofs.Ytchladbjhodkoaa
open Go.RowKit

set_option maxRecDepth 100000 in
set_option maxHeartbeats 2000000 in
theorem refMore_nil (B : Nat) (v : Value) (c : Ow.C) (w : World) (hB : B ≤ w.heap.size) (hown : w.ownsRow B 49 4 v 0 []) :
    Calls Try.prog 40 #[v, .agg #[.int .i64 c.f, .int .i64 c.t, .int .i64 c.n, .int .i64 c.e]] w (MoreOut w B v [] c) := by
  obtain ⟨i0, hi, hz0, hz1, hz2⟩ := info_parts infoClaim
  obtain ⟨a, cap, rfl, -, -⟩ := cls_of_row (l := []) hown (by simp)
  have HO := Lib.hid hown
  clear hown
  have hw1 : IntKind.i64.wrap (-1) = -1 := IntWalk.i64_in _ (by omega)
  go_enter Try.func40, Try.ntmps40
  go_wp2
  go_quiet (fail)
  have hk0 : Keeps (fun k => some k ≠ (Value.slice a 0 cap).ownBlock) w ((w.alloc (.cells #[.int .i64 c.f, .int .i64 c.t, .int .i64 c.n, .int .i64 c.e] 49)).drewN nq) := Keeps.of_below (below_drewN ((Below.refl _ w).alloc (Nat.le_refl _) _) _) fun k h _ => h
  have c1 : ((w.alloc (.cells #[.int .i64 c.f, .int .i64 c.t, .int .i64 c.n, .int .i64 c.e] 49)).drewN nq).cell? ⟨w.heap.size, 0, none⟩ = some (.int .i64 c.f) := by rw [World.cell?_drewN, World.cell?_alloc_new]; rfl
  have c2 : ((w.alloc (.cells #[.int .i64 c.f, .int .i64 c.t, .int .i64 c.n, .int .i64 c.e] 49)).drewN nq).cell? ⟨w.heap.size, 1, none⟩ = some (.int .i64 c.t) := by rw [World.cell?_drewN, World.cell?_alloc_new]; rfl
  have c3 : ((w.alloc (.cells #[.int .i64 c.f, .int .i64 c.t, .int .i64 c.n, .int .i64 c.e] 49)).drewN nq).cell? ⟨w.heap.size, 2, none⟩ = some (.int .i64 c.n) := by rw [World.cell?_drewN, World.cell?_alloc_new]; rfl
  have c4 : ((w.alloc (.cells #[.int .i64 c.f, .int .i64 c.t, .int .i64 c.n, .int .i64 c.e] 49)).drewN nq).cell? ⟨w.heap.size, 3, none⟩ = some (.int .i64 c.e) := by rw [World.cell?_drewN, World.cell?_alloc_new]; rfl
  have ho : ((w.alloc (.cells #[.int .i64 c.f, .int .i64 c.t, .int .i64 c.n, .int .i64 c.e] 49)).drewN nq).ownsRow B 49 4 (Value.slice a 0 cap) 0 [] := (HO.out.alloc _)
  generalize (w.alloc (.cells #[.int .i64 c.f, .int .i64 c.t, .int .i64 c.n, .int .i64 c.e] 49)).drewN nq = wq at *
  have hsz := hk0.size
  have HK := Lib.hid hk0
  clear hk0
  go_wp2_with (at_builtin; refine wpList_append_own_at _ rfl (.tmp 49) (.tmp 51) 22 rfl B 49 i0 (.agg #[.int .i64 0, .int .i64 0, .int .i64 0, .int .i64 0]) 4 32 Try.underlying22 hi hz0 hz1 hz2 rfl (by decide) _ _ _ rfl (ho.alloc _) ⟨wq.heap.size, 0, none⟩ 1 1 [.int .i64 c.f, .int .i64 c.t, .int .i64 c.n, .int .i64 c.e] rfl rfl ?c1 ?c2 ?c3 ?c4 ?c5 ?_)
  case c1 => exact quad_news _ _ rfl _ _ _ _ _
  case c2 => intro u hu; simp at hu; rcases hu with rfl | rfl | rfl | rfl <;> rfl
  case c3 => decide
  case c4 => omega
  case c5 => simp; omega
  intro v' w1 hown1 hgrow _ hat
  have HF := Lib.hid (more_app (c := c) (l := []) (wa := wq.alloc (.cells #[.int .i64 c.f, .int .i64 c.t, .int .i64 c.n, .int .i64 c.e] 49)) rfl (HK.out.alloc _) hown1 hgrow (hat.imp id (fun h => by rw [h, World.size_alloc])))
  clear hown1 hgrow hat
  go_wp2
  go_ret
  exact HF.out

set_option maxRecDepth 100000 in
set_option maxHeartbeats 4000000 in
/-- where the last claim goes on. -/
theorem refMore_touch (B : Nat) (v : Value) (l : List Ow.C) (b c : Ow.C) (w : World) (hl : (l ++ [b]).length ≤ 1000000) (hcf : 0 ≤ c.f ∧ c.f ≤ 9223372036854775807) (ht : Ow.touch b c = true) (hown : w.ownsRow B 49 4 v (l ++ [b]).length (flat4 (l ++ [b]))) :
    Calls Try.prog 40 #[v, .agg #[.int .i64 c.f, .int .i64 c.t, .int .i64 c.n, .int .i64 c.e]] w (MoreOut w B v (l ++ [b]) c) := by
  obtain ⟨g, cap, rfl, hg, hgs, hcap, hcm, hc4, hfz⟩ := owns4 hown (by simp)
  have HO := Lib.hid hown
  obtain ⟨c1, c2, c3, c4⟩ := hc4 l.length (by simp)
  have e1 : (l ++ [b]).getD l.length Ow.z = b := by simp [List.getD]
  rw [e1] at c1 c2 c3 c4
  have hz := hfz (l.length * 4 + 1)
  have HST := Lib.hid (fun wa (hb : Below w.heap.size w wa) => more_store (c := c) ht HO.out hb)
  have htt := Ow.touch_iff.1 ht
  clear hown hc4 hfz e1
  have hlen : (l ++ [b]).length = l.length + 1 := by simp
  rw [hlen] at hl hcap HST ⊢
  generalize MoreOut w B (.slice (some ⟨g, 0, none⟩) (l.length + 1) cap) (l ++ [b]) c = Q at *
  generalize l.length = m at *
  obtain ⟨bf, bt, bn, be⟩ := b
  obtain ⟨cf, ct, cn, ce⟩ := c
  simp only at c1 c2 c3 c4 HST htt hcf ⊢
  clear ht hlen HO
  obtain rfl : bt = cf - 1 := by omega
  obtain ⟨-, rfl, rfl⟩ := htt
  have hcI : (0 : Int) ≤ (m : Int) := by omega
  have hwI : IntKind.i64.wrap ((m : Int) + 1 - 1) = (m : Int) := by rw [IntWalk.i64_in _ (by omega)]; omega
  have hwJ : IntKind.i64.wrap (m : Int) = (m : Int) := IntWalk.i64_in _ (by omega)
  have hm1 : (m : Int) < (m : Int) + 1 := by omega
  have hwF : IntKind.i64.wrap (cf - 1) = cf - 1 := IntWalk.i64_in _ (by omega)
  have hbw : Below w.heap.size w (w.alloc (.cells #[.int .i64 cf, .int .i64 ct, .int .i64 cn, .int .i64 ce] 49)) := (Below.refl _ w).alloc (Nat.le_refl _) _
  have k1 : (w.alloc (.cells #[.int .i64 cf, .int .i64 ct, .int .i64 cn, .int .i64 ce] 49)).cell? ⟨w.heap.size, 0, none⟩ = some (.int .i64 cf) := by rw [World.cell?_alloc_new]; rfl
  have k2 : (w.alloc (.cells #[.int .i64 cf, .int .i64 ct, .int .i64 cn, .int .i64 ce] 49)).cell? ⟨w.heap.size, 1, none⟩ = some (.int .i64 ct) := by rw [World.cell?_alloc_new]; rfl
  have k3 : (w.alloc (.cells #[.int .i64 cf, .int .i64 ct, .int .i64 cn, .int .i64 ce] 49)).cell? ⟨w.heap.size, 2, none⟩ = some (.int .i64 cn) := by rw [World.cell?_alloc_new]; rfl
  have k4 : (w.alloc (.cells #[.int .i64 cf, .int .i64 ct, .int .i64 cn, .int .i64 ce] 49)).cell? ⟨w.heap.size, 3, none⟩ = some (.int .i64 ce) := by rw [World.cell?_alloc_new]; rfl
  have d1 := (hbw.cell (p := ⟨g, m * 4, none⟩) hgs).trans c1
  have d2 := (hbw.cell (p := ⟨g, m * 4 + 1, none⟩) hgs).trans c2
  have d3 := (hbw.cell (p := ⟨g, m * 4 + 2, none⟩) hgs).trans c3
  have d4 := (hbw.cell (p := ⟨g, m * 4 + 3, none⟩) hgs).trans c4
  have dz := (hbw.frozen (p := ⟨g, m * 4 + 1, none⟩) hgs).trans hz
  have hgb : g < (w.alloc (.cells #[.int .i64 cf, .int .i64 ct, .int .i64 cn, .int .i64 ce] 49)).heap.size := by simp; omega
  generalize hwb : w.alloc (.cells #[.int .i64 cf, .int .i64 ct, .int .i64 cn, .int .i64 ce] 49) = wb at *
  have HBW := Lib.hid hbw
  clear hbw c1 c2 c3 c4 hz
  go_enter Try.func40, Try.ntmps40
  go_wp2
  clear hwb
  go_quiet (fail)
  have HF := Lib.hid (HST.out (wb.drewN nq) (below_drewN HBW.out _))
  clear HST
  go_wp2
  exact HF.out

set_option maxRecDepth 100000 in
set_option maxHeartbeats 4000000 in
/-- where it does not. -/
theorem refMore_a (B : Nat) (v : Value) (l : List Ow.C) (b c : Ow.C) (w : World) (hl : (l ++ [b]).length ≤ 1000000) (hcf : 0 ≤ c.f ∧ c.f ≤ 9223372036854775807) (ht : Ow.touch b c = false) (hd : ¬ b.t = c.f - 1) (hown : w.ownsRow B 49 4 v (l ++ [b]).length (flat4 (l ++ [b]))) :
    Calls Try.prog 40 #[v, .agg #[.int .i64 c.f, .int .i64 c.t, .int .i64 c.n, .int .i64 c.e]] w (MoreOut w B v (l ++ [b]) c) := by
  obtain ⟨i0, hi, hz0, hz1, hz2⟩ := info_parts infoClaim
  obtain ⟨g, cap, rfl, hg, hgs, hcap, hcm, hc4, -⟩ := owns4 hown (by simp)
  obtain ⟨c1, c2, c3, c4⟩ := hc4 l.length (by simp)
  have e1 : (l ++ [b]).getD l.length Ow.z = b := by simp [List.getD]
  rw [e1] at c1 c2 c3 c4
  have hmr : Ow.more (l ++ [b]) c = (l ++ [b]) ++ [c] := by rw [Ow.more_snoc, ht]; simp
  have HAPP : Hid (∀ wa v' w1, Below w.heap.size w wa → w1.ownsRow B 49 4 v' ((l ++ [b]).length + 1) (flat4 (l ++ [b]) ++ [.int .i64 c.f, .int .i64 c.t, .int .i64 c.n, .int .i64 c.e]) → wa.grownBy w1 (Value.slice (some ⟨g, 0, none⟩) (l ++ [b]).length cap).ownBlock → (v'.ownBlock = (Value.slice (some ⟨g, 0, none⟩) (l ++ [b]).length cap).ownBlock ∨ v'.ownBlock = some wa.heap.size) → MoreOut w B (Value.slice (some ⟨g, 0, none⟩) (l ++ [b]).length cap) (l ++ [b]) c (.returned v') w1) :=
    Lib.hid fun wa v' w1 hb h1 h2 h3 => more_app hmr (Keeps.of_below hb fun k h _ => h) h1 h2 h3
  have HO := Lib.hid hown
  clear hown hc4 e1 hmr
  have hlen : (l ++ [b]).length = l.length + 1 := by simp
  generalize flat4 (l ++ [b]) = fl at *
  rw [hlen] at hl hcap HAPP HO ⊢
  generalize MoreOut w B (.slice (some ⟨g, 0, none⟩) (l.length + 1) cap) (l ++ [b]) c = Q at *
  generalize l.length = m at *
  obtain ⟨bf, bt, bn, be⟩ := b
  obtain ⟨cf, ct, cn, ce⟩ := c
  simp only at c1 c2 c3 c4 HAPP hd hcf ⊢
  clear ht hlen
  have hq : (bt == cf - 1) = false := by rw [beq_eq_false_iff_ne]; exact hd
  clear hd
  have hcI : (0 : Int) ≤ (m : Int) := by omega
  have hwI : IntKind.i64.wrap ((m : Int) + 1 - 1) = (m : Int) := by rw [IntWalk.i64_in _ (by omega)]; omega
  have hwJ : IntKind.i64.wrap (m : Int) = (m : Int) := IntWalk.i64_in _ (by omega)
  have hm1 : (m : Int) < (m : Int) + 1 := by omega
  have hwF : IntKind.i64.wrap (cf - 1) = cf - 1 := IntWalk.i64_in _ (by omega)
  have hbw : Below w.heap.size w (w.alloc (.cells #[.int .i64 cf, .int .i64 ct, .int .i64 cn, .int .i64 ce] 49)) := (Below.refl _ w).alloc (Nat.le_refl _) _
  have k1 : (w.alloc (.cells #[.int .i64 cf, .int .i64 ct, .int .i64 cn, .int .i64 ce] 49)).cell? ⟨w.heap.size, 0, none⟩ = some (.int .i64 cf) := by rw [World.cell?_alloc_new]; rfl
  have k2 : (w.alloc (.cells #[.int .i64 cf, .int .i64 ct, .int .i64 cn, .int .i64 ce] 49)).cell? ⟨w.heap.size, 1, none⟩ = some (.int .i64 ct) := by rw [World.cell?_alloc_new]; rfl
  have k3 : (w.alloc (.cells #[.int .i64 cf, .int .i64 ct, .int .i64 cn, .int .i64 ce] 49)).cell? ⟨w.heap.size, 2, none⟩ = some (.int .i64 cn) := by rw [World.cell?_alloc_new]; rfl
  have k4 : (w.alloc (.cells #[.int .i64 cf, .int .i64 ct, .int .i64 cn, .int .i64 ce] 49)).cell? ⟨w.heap.size, 3, none⟩ = some (.int .i64 ce) := by rw [World.cell?_alloc_new]; rfl
  have d1 := (hbw.cell (p := ⟨g, m * 4, none⟩) hgs).trans c1
  have d2 := (hbw.cell (p := ⟨g, m * 4 + 1, none⟩) hgs).trans c2
  have d3 := (hbw.cell (p := ⟨g, m * 4 + 2, none⟩) hgs).trans c3
  have d4 := (hbw.cell (p := ⟨g, m * 4 + 3, none⟩) hgs).trans c4
  have hgb : g < (w.alloc (.cells #[.int .i64 cf, .int .i64 ct, .int .i64 cn, .int .i64 ce] 49)).heap.size := by simp; omega
  generalize hwb : w.alloc (.cells #[.int .i64 cf, .int .i64 ct, .int .i64 cn, .int .i64 ce] 49) = wb at *
  have HBW := Lib.hid hbw
  clear hbw c1 c2 c3 c4
  go_enter Try.func40, Try.ntmps40
  go_wp2
  clear hwb
  go_quiet (fail)
  have HB2 : Hid (Below w.heap.size w (wb.drewN nq)) := Lib.hid (below_drewN HBW.out _)
  have e1 : (wb.drewN nq).cell? ⟨w.heap.size, 0, none⟩ = some (.int .i64 cf) := by rw [World.cell?_drewN]; exact k1
  have e2 : (wb.drewN nq).cell? ⟨w.heap.size, 1, none⟩ = some (.int .i64 ct) := by rw [World.cell?_drewN]; exact k2
  have e3 : (wb.drewN nq).cell? ⟨w.heap.size, 2, none⟩ = some (.int .i64 cn) := by rw [World.cell?_drewN]; exact k3
  have e4 : (wb.drewN nq).cell? ⟨w.heap.size, 3, none⟩ = some (.int .i64 ce) := by rw [World.cell?_drewN]; exact k4
  generalize wb.drewN nq = w1 at *
  have ho : w1.ownsRow B 49 4 (.slice (some ⟨g, 0, none⟩) (m + 1) cap) (m + 1) fl := owns_below HO.out HB2.out
  have hs1 := HB2.out.size
  have hgB : B ≤ w1.heap.size := by omega
  clear d1 d2 d3 d4 k1 k2 k3 k4
  go_wp2_with (at_builtin; refine wpList_append_own_at _ rfl (.tmp 49) (.tmp 51) 22 rfl B 49 i0 (.agg #[.int .i64 0, .int .i64 0, .int .i64 0, .int .i64 0]) 4 32 Try.underlying22 hi hz0 hz1 hz2 rfl (by decide) _ _ _ rfl (ho.alloc _) ⟨w1.heap.size, 0, none⟩ 1 1 [.int .i64 cf, .int .i64 ct, .int .i64 cn, .int .i64 ce] rfl rfl ?c1 ?c2 ?c3 ?c4 ?c5 ?_)
  case c1 => exact quad_news _ _ rfl _ _ _ _ _
  case c2 => intro u hu; simp at hu; rcases hu with rfl | rfl | rfl | rfl <;> rfl
  case c3 => unfold maxLen; omega
  case c4 => omega
  case c5 => simp; omega
  intro v' w2 hown1 hgrow _ hat
  have HF := Lib.hid (HAPP.out _ v' w2 (HB2.out.alloc HB2.out.size (.cells #[.int .i64 cf, .int .i64 ct, .int .i64 cn, .int .i64 ce] 49)) hown1 hgrow (hat.imp id (fun h => by rw [h, World.size_alloc])))
  clear hown1 hgrow hat HAPP
  go_wp2
  exact HF.out

set_option maxRecDepth 100000 in
set_option maxHeartbeats 4000000 in
/-- where it does not. -/
theorem refMore_b (B : Nat) (v : Value) (l : List Ow.C) (b c : Ow.C) (w : World) (hl : (l ++ [b]).length ≤ 1000000) (hcf : 0 ≤ c.f ∧ c.f ≤ 9223372036854775807) (ht : Ow.touch b c = false) (hd : b.t = c.f - 1 ∧ ¬ b.n = c.n) (hown : w.ownsRow B 49 4 v (l ++ [b]).length (flat4 (l ++ [b]))) :
    Calls Try.prog 40 #[v, .agg #[.int .i64 c.f, .int .i64 c.t, .int .i64 c.n, .int .i64 c.e]] w (MoreOut w B v (l ++ [b]) c) := by
  obtain ⟨i0, hi, hz0, hz1, hz2⟩ := info_parts infoClaim
  obtain ⟨g, cap, rfl, hg, hgs, hcap, hcm, hc4, -⟩ := owns4 hown (by simp)
  obtain ⟨c1, c2, c3, c4⟩ := hc4 l.length (by simp)
  have e1 : (l ++ [b]).getD l.length Ow.z = b := by simp [List.getD]
  rw [e1] at c1 c2 c3 c4
  have hmr : Ow.more (l ++ [b]) c = (l ++ [b]) ++ [c] := by rw [Ow.more_snoc, ht]; simp
  have HAPP : Hid (∀ wa v' w1, Below w.heap.size w wa → w1.ownsRow B 49 4 v' ((l ++ [b]).length + 1) (flat4 (l ++ [b]) ++ [.int .i64 c.f, .int .i64 c.t, .int .i64 c.n, .int .i64 c.e]) → wa.grownBy w1 (Value.slice (some ⟨g, 0, none⟩) (l ++ [b]).length cap).ownBlock → (v'.ownBlock = (Value.slice (some ⟨g, 0, none⟩) (l ++ [b]).length cap).ownBlock ∨ v'.ownBlock = some wa.heap.size) → MoreOut w B (Value.slice (some ⟨g, 0, none⟩) (l ++ [b]).length cap) (l ++ [b]) c (.returned v') w1) :=
    Lib.hid fun wa v' w1 hb h1 h2 h3 => more_app hmr (Keeps.of_below hb fun k h _ => h) h1 h2 h3
  have HO := Lib.hid hown
  clear hown hc4 e1 hmr
  have hlen : (l ++ [b]).length = l.length + 1 := by simp
  generalize flat4 (l ++ [b]) = fl at *
  rw [hlen] at hl hcap HAPP HO ⊢
  generalize MoreOut w B (.slice (some ⟨g, 0, none⟩) (l.length + 1) cap) (l ++ [b]) c = Q at *
  generalize l.length = m at *
  obtain ⟨bf, bt, bn, be⟩ := b
  obtain ⟨cf, ct, cn, ce⟩ := c
  simp only at c1 c2 c3 c4 HAPP hd hcf ⊢
  clear ht hlen
  obtain ⟨rfl, hd⟩ := hd
  have hq : (bn == cn) = false := by rw [beq_eq_false_iff_ne]; exact hd
  clear hd
  have hcI : (0 : Int) ≤ (m : Int) := by omega
  have hwI : IntKind.i64.wrap ((m : Int) + 1 - 1) = (m : Int) := by rw [IntWalk.i64_in _ (by omega)]; omega
  have hwJ : IntKind.i64.wrap (m : Int) = (m : Int) := IntWalk.i64_in _ (by omega)
  have hm1 : (m : Int) < (m : Int) + 1 := by omega
  have hwF : IntKind.i64.wrap (cf - 1) = cf - 1 := IntWalk.i64_in _ (by omega)
  have hbw : Below w.heap.size w (w.alloc (.cells #[.int .i64 cf, .int .i64 ct, .int .i64 cn, .int .i64 ce] 49)) := (Below.refl _ w).alloc (Nat.le_refl _) _
  have k1 : (w.alloc (.cells #[.int .i64 cf, .int .i64 ct, .int .i64 cn, .int .i64 ce] 49)).cell? ⟨w.heap.size, 0, none⟩ = some (.int .i64 cf) := by rw [World.cell?_alloc_new]; rfl
  have k2 : (w.alloc (.cells #[.int .i64 cf, .int .i64 ct, .int .i64 cn, .int .i64 ce] 49)).cell? ⟨w.heap.size, 1, none⟩ = some (.int .i64 ct) := by rw [World.cell?_alloc_new]; rfl
  have k3 : (w.alloc (.cells #[.int .i64 cf, .int .i64 ct, .int .i64 cn, .int .i64 ce] 49)).cell? ⟨w.heap.size, 2, none⟩ = some (.int .i64 cn) := by rw [World.cell?_alloc_new]; rfl
  have k4 : (w.alloc (.cells #[.int .i64 cf, .int .i64 ct, .int .i64 cn, .int .i64 ce] 49)).cell? ⟨w.heap.size, 3, none⟩ = some (.int .i64 ce) := by rw [World.cell?_alloc_new]; rfl
  have d1 := (hbw.cell (p := ⟨g, m * 4, none⟩) hgs).trans c1
  have d2 := (hbw.cell (p := ⟨g, m * 4 + 1, none⟩) hgs).trans c2
  have d3 := (hbw.cell (p := ⟨g, m * 4 + 2, none⟩) hgs).trans c3
  have d4 := (hbw.cell (p := ⟨g, m * 4 + 3, none⟩) hgs).trans c4
  have hgb : g < (w.alloc (.cells #[.int .i64 cf, .int .i64 ct, .int .i64 cn, .int .i64 ce] 49)).heap.size := by simp; omega
  generalize hwb : w.alloc (.cells #[.int .i64 cf, .int .i64 ct, .int .i64 cn, .int .i64 ce] 49) = wb at *
  have HBW := Lib.hid hbw
  clear hbw c1 c2 c3 c4
  go_enter Try.func40, Try.ntmps40
  go_wp2
  clear hwb
  go_quiet (fail)
  have HB2 : Hid (Below w.heap.size w (wb.drewN nq)) := Lib.hid (below_drewN HBW.out _)
  have e1 : (wb.drewN nq).cell? ⟨w.heap.size, 0, none⟩ = some (.int .i64 cf) := by rw [World.cell?_drewN]; exact k1
  have e2 : (wb.drewN nq).cell? ⟨w.heap.size, 1, none⟩ = some (.int .i64 ct) := by rw [World.cell?_drewN]; exact k2
  have e3 : (wb.drewN nq).cell? ⟨w.heap.size, 2, none⟩ = some (.int .i64 cn) := by rw [World.cell?_drewN]; exact k3
  have e4 : (wb.drewN nq).cell? ⟨w.heap.size, 3, none⟩ = some (.int .i64 ce) := by rw [World.cell?_drewN]; exact k4
  generalize wb.drewN nq = w1 at *
  have ho : w1.ownsRow B 49 4 (.slice (some ⟨g, 0, none⟩) (m + 1) cap) (m + 1) fl := owns_below HO.out HB2.out
  have hs1 := HB2.out.size
  have hgB : B ≤ w1.heap.size := by omega
  clear d1 d2 d3 d4 k1 k2 k3 k4
  go_wp2_with (at_builtin; refine wpList_append_own_at _ rfl (.tmp 49) (.tmp 51) 22 rfl B 49 i0 (.agg #[.int .i64 0, .int .i64 0, .int .i64 0, .int .i64 0]) 4 32 Try.underlying22 hi hz0 hz1 hz2 rfl (by decide) _ _ _ rfl (ho.alloc _) ⟨w1.heap.size, 0, none⟩ 1 1 [.int .i64 cf, .int .i64 ct, .int .i64 cn, .int .i64 ce] rfl rfl ?c1 ?c2 ?c3 ?c4 ?c5 ?_)
  case c1 => exact quad_news _ _ rfl _ _ _ _ _
  case c2 => intro u hu; simp at hu; rcases hu with rfl | rfl | rfl | rfl <;> rfl
  case c3 => unfold maxLen; omega
  case c4 => omega
  case c5 => simp; omega
  intro v' w2 hown1 hgrow _ hat
  have HF := Lib.hid (HAPP.out _ v' w2 (HB2.out.alloc HB2.out.size (.cells #[.int .i64 cf, .int .i64 ct, .int .i64 cn, .int .i64 ce] 49)) hown1 hgrow (hat.imp id (fun h => by rw [h, World.size_alloc])))
  clear hown1 hgrow hat HAPP
  go_wp2
  exact HF.out

set_option maxRecDepth 100000 in
set_option maxHeartbeats 4000000 in
/-- where it does not. -/
theorem refMore_c (B : Nat) (v : Value) (l : List Ow.C) (b c : Ow.C) (w : World) (hl : (l ++ [b]).length ≤ 1000000) (hcf : 0 ≤ c.f ∧ c.f ≤ 9223372036854775807) (ht : Ow.touch b c = false) (hd : b.t = c.f - 1 ∧ b.n = c.n ∧ ¬ b.e = c.e) (hown : w.ownsRow B 49 4 v (l ++ [b]).length (flat4 (l ++ [b]))) :
    Calls Try.prog 40 #[v, .agg #[.int .i64 c.f, .int .i64 c.t, .int .i64 c.n, .int .i64 c.e]] w (MoreOut w B v (l ++ [b]) c) := by
  obtain ⟨i0, hi, hz0, hz1, hz2⟩ := info_parts infoClaim
  obtain ⟨g, cap, rfl, hg, hgs, hcap, hcm, hc4, -⟩ := owns4 hown (by simp)
  obtain ⟨c1, c2, c3, c4⟩ := hc4 l.length (by simp)
  have e1 : (l ++ [b]).getD l.length Ow.z = b := by simp [List.getD]
  rw [e1] at c1 c2 c3 c4
  have hmr : Ow.more (l ++ [b]) c = (l ++ [b]) ++ [c] := by rw [Ow.more_snoc, ht]; simp
  have HAPP : Hid (∀ wa v' w1, Below w.heap.size w wa → w1.ownsRow B 49 4 v' ((l ++ [b]).length + 1) (flat4 (l ++ [b]) ++ [.int .i64 c.f, .int .i64 c.t, .int .i64 c.n, .int .i64 c.e]) → wa.grownBy w1 (Value.slice (some ⟨g, 0, none⟩) (l ++ [b]).length cap).ownBlock → (v'.ownBlock = (Value.slice (some ⟨g, 0, none⟩) (l ++ [b]).length cap).ownBlock ∨ v'.ownBlock = some wa.heap.size) → MoreOut w B (Value.slice (some ⟨g, 0, none⟩) (l ++ [b]).length cap) (l ++ [b]) c (.returned v') w1) :=
    Lib.hid fun wa v' w1 hb h1 h2 h3 => more_app hmr (Keeps.of_below hb fun k h _ => h) h1 h2 h3
  have HO := Lib.hid hown
  clear hown hc4 e1 hmr
  have hlen : (l ++ [b]).length = l.length + 1 := by simp
  generalize flat4 (l ++ [b]) = fl at *
  rw [hlen] at hl hcap HAPP HO ⊢
  generalize MoreOut w B (.slice (some ⟨g, 0, none⟩) (l.length + 1) cap) (l ++ [b]) c = Q at *
  generalize l.length = m at *
  obtain ⟨bf, bt, bn, be⟩ := b
  obtain ⟨cf, ct, cn, ce⟩ := c
  simp only at c1 c2 c3 c4 HAPP hd hcf ⊢
  clear ht hlen
  obtain ⟨rfl, hn, hd⟩ := hd
  obtain rfl : cn = bn := hn.symm
  have hq : (be == ce) = false := by rw [beq_eq_false_iff_ne]; exact hd
  clear hd
  have hcI : (0 : Int) ≤ (m : Int) := by omega
  have hwI : IntKind.i64.wrap ((m : Int) + 1 - 1) = (m : Int) := by rw [IntWalk.i64_in _ (by omega)]; omega
  have hwJ : IntKind.i64.wrap (m : Int) = (m : Int) := IntWalk.i64_in _ (by omega)
  have hm1 : (m : Int) < (m : Int) + 1 := by omega
  have hwF : IntKind.i64.wrap (cf - 1) = cf - 1 := IntWalk.i64_in _ (by omega)
  have hbw : Below w.heap.size w (w.alloc (.cells #[.int .i64 cf, .int .i64 ct, .int .i64 cn, .int .i64 ce] 49)) := (Below.refl _ w).alloc (Nat.le_refl _) _
  have k1 : (w.alloc (.cells #[.int .i64 cf, .int .i64 ct, .int .i64 cn, .int .i64 ce] 49)).cell? ⟨w.heap.size, 0, none⟩ = some (.int .i64 cf) := by rw [World.cell?_alloc_new]; rfl
  have k2 : (w.alloc (.cells #[.int .i64 cf, .int .i64 ct, .int .i64 cn, .int .i64 ce] 49)).cell? ⟨w.heap.size, 1, none⟩ = some (.int .i64 ct) := by rw [World.cell?_alloc_new]; rfl
  have k3 : (w.alloc (.cells #[.int .i64 cf, .int .i64 ct, .int .i64 cn, .int .i64 ce] 49)).cell? ⟨w.heap.size, 2, none⟩ = some (.int .i64 cn) := by rw [World.cell?_alloc_new]; rfl
  have k4 : (w.alloc (.cells #[.int .i64 cf, .int .i64 ct, .int .i64 cn, .int .i64 ce] 49)).cell? ⟨w.heap.size, 3, none⟩ = some (.int .i64 ce) := by rw [World.cell?_alloc_new]; rfl
  have d1 := (hbw.cell (p := ⟨g, m * 4, none⟩) hgs).trans c1
  have d2 := (hbw.cell (p := ⟨g, m * 4 + 1, none⟩) hgs).trans c2
  have d3 := (hbw.cell (p := ⟨g, m * 4 + 2, none⟩) hgs).trans c3
  have d4 := (hbw.cell (p := ⟨g, m * 4 + 3, none⟩) hgs).trans c4
  have hgb : g < (w.alloc (.cells #[.int .i64 cf, .int .i64 ct, .int .i64 cn, .int .i64 ce] 49)).heap.size := by simp; omega
  generalize hwb : w.alloc (.cells #[.int .i64 cf, .int .i64 ct, .int .i64 cn, .int .i64 ce] 49) = wb at *
  have HBW := Lib.hid hbw
  clear hbw c1 c2 c3 c4
  go_enter Try.func40, Try.ntmps40
  go_wp2
  clear hwb
  go_quiet (fail)
  have HB2 : Hid (Below w.heap.size w (wb.drewN nq)) := Lib.hid (below_drewN HBW.out _)
  have e1 : (wb.drewN nq).cell? ⟨w.heap.size, 0, none⟩ = some (.int .i64 cf) := by rw [World.cell?_drewN]; exact k1
  have e2 : (wb.drewN nq).cell? ⟨w.heap.size, 1, none⟩ = some (.int .i64 ct) := by rw [World.cell?_drewN]; exact k2
  have e3 : (wb.drewN nq).cell? ⟨w.heap.size, 2, none⟩ = some (.int .i64 cn) := by rw [World.cell?_drewN]; exact k3
  have e4 : (wb.drewN nq).cell? ⟨w.heap.size, 3, none⟩ = some (.int .i64 ce) := by rw [World.cell?_drewN]; exact k4
  generalize wb.drewN nq = w1 at *
  have ho : w1.ownsRow B 49 4 (.slice (some ⟨g, 0, none⟩) (m + 1) cap) (m + 1) fl := owns_below HO.out HB2.out
  have hs1 := HB2.out.size
  have hgB : B ≤ w1.heap.size := by omega
  clear d1 d2 d3 d4 k1 k2 k3 k4
  go_wp2_with (at_builtin; refine wpList_append_own_at _ rfl (.tmp 49) (.tmp 51) 22 rfl B 49 i0 (.agg #[.int .i64 0, .int .i64 0, .int .i64 0, .int .i64 0]) 4 32 Try.underlying22 hi hz0 hz1 hz2 rfl (by decide) _ _ _ rfl (ho.alloc _) ⟨w1.heap.size, 0, none⟩ 1 1 [.int .i64 cf, .int .i64 ct, .int .i64 cn, .int .i64 ce] rfl rfl ?c1 ?c2 ?c3 ?c4 ?c5 ?_)
  case c1 => exact quad_news _ _ rfl _ _ _ _ _
  case c2 => intro u hu; simp at hu; rcases hu with rfl | rfl | rfl | rfl <;> rfl
  case c3 => unfold maxLen; omega
  case c4 => omega
  case c5 => simp; omega
  intro v' w2 hown1 hgrow _ hat
  have HF := Lib.hid (HAPP.out _ v' w2 (HB2.out.alloc HB2.out.size (.cells #[.int .i64 cf, .int .i64 ct, .int .i64 cn, .int .i64 ce] 49)) hown1 hgrow (hat.imp id (fun h => by rw [h, World.size_alloc])))
  clear hown1 hgrow hat HAPP
  go_wp2
  exact HF.out

theorem refMore_any (B : Nat) (v : Value) (l : List Ow.C) (c : Ow.C) (w : World) (hl : l.length ≤ 1000000) (hcf : 0 ≤ c.f ∧ c.f ≤ 9223372036854775807) (hB : B ≤ w.heap.size) (hown : w.ownsRow B 49 4 v l.length (flat4 l)) :
    Calls Try.prog 40 #[v, .agg #[.int .i64 c.f, .int .i64 c.t, .int .i64 c.n, .int .i64 c.e]] w (MoreOut w B v l c) := by
  rcases List.eq_nil_or_concat l with rfl | ⟨l', b, rfl⟩
  · exact refMore_nil B v c w hB hown
  · rw [List.concat_eq_append] at *
    cases ht : Ow.touch b c with
    | true => exact refMore_touch B v l' b c w hl hcf ht hown
    | false =>
      by_cases h1 : b.t = c.f - 1
      · by_cases h2 : b.n = c.n
        · refine refMore_c B v l' b c w hl hcf ht ⟨h1, h2, fun h3 => ?_⟩ hown
          rw [Ow.touch_iff.2 ⟨by omega, h2.symm, h3.symm⟩] at ht
          cases ht
        · exact refMore_b B v l' b c w hl hcf ht ⟨h1, h2⟩ hown
      · exact refMore_a B v l' b c w hl hcf ht h1 hown
end Go.Proofs.Ytchladbjhodkoaa
