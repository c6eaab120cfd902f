/- The contract of cmd.Keys. -/
import Derived.Test.YtokcbcjonbjkgaaGreatDoorCmCheck
namespace Go.Proofs.YtokcbcjonbjkgaaGreatDoor
open Go.RowKit Go.Shelf
attribute [local go_sem] Oper.semAt_some

theorem Cm.keysOf_none {ws : List (List UInt8)} (h : Cm.checkS ws = none) : Cm.keysOf ws = [] := by unfold Cm.keysOf; rw [h]
theorem Cm.keysOf_some {ws : List (List UInt8)} {s : Cm.Sp} (h : Cm.checkS ws = some s) : Cm.keysOf ws = Cm.keysS s ws := by unfold Cm.keysOf; rw [h]

theorem Cm.check_parts {ws : List (List UInt8)} {s : Cm.Sp} (h : Cm.checkS ws = some s) : 0 < ws.length ∧ ws.length ≤ 100 ∧ Cm.findS (ws.getD 0 []) = some s ∧ Cm.countOk s ws.length = true := by
  unfold Cm.checkS at h
  split at h
  · cases h
  · rename_i hn
    cases hf : Cm.findS (ws.getD 0 []) with
    | none => rw [hf] at h; cases h
    | some t =>
      rw [hf] at h
      simp only at h
      split at h
      · rename_i hc
        cases h
        rw [Bool.and_eq_true] at hc
        exact ⟨by omega, by omega, rfl, hc.1⟩
      · cases h

theorem Cm.keysS_short {s : Cm.Sp} {ws : List (List UInt8)} (h : ∀ x, (ws.getD x []).length ≤ 9223372036854775807) : ∀ k ∈ Cm.keysS s ws, k.length ≤ 9223372036854775807 := by
  intro k hk
  unfold Cm.keysS at hk
  obtain ⟨i, _, rfl⟩ := List.mem_map.1 hk
  exact h _

/-- what Keys hands back. -/
def KOut (w : World) (ks : List (List UInt8)) (e : Ending) (W' : World) : Prop := ∃ a' cap', e = .returned (.slice a' ks.length cap') ∧ Wds W' a' cap' ks ∧ Below w.heap.size w W'

set_option maxRecDepth 100000 in
set_option maxHeartbeats 2000000 in
theorem keysDev_any (a : Option Addr) (cap : Nat) (ws : List (List UInt8)) (w : World) (hW : Wds w a cap ws) : CallsIn Fence.wide 0 Tryz.prog 27 #[.slice a ws.length cap] w (KOut w (Cm.keysOf ws)) := by
  have hck := check_any a cap ws w hW
  unfold chkV at hck
  have HW := Lib.hid hW
  clear hW
  cases hc : Cm.checkS ws with
  | none =>
    rw [hc] at hck
    rw [Cm.keysOf_none hc]
    clear hc
    refine callsIn_of_wp Tryz.func27 rfl trivial ?_ rfl
    simp only [Tryz.ntmps27, List.size_toArray, List.length_cons, List.length_nil, Nat.reduceAdd, Nat.reduceSub, Array.replicate_succ, Array.replicate_zero, List.push_toArray, List.append_toArray, List.nil_append, List.cons_append]
    gi_wp2_with (refine ⟨trivial, rfl, ?_⟩; refine hck.mono ?_; rintro e w1 ⟨rfl, hb1⟩; have HB1 := Lib.hid hb1; clear hb1; simp only [spV, zeroSp])
    go_ret
    exact ⟨_, _, rfl, wds_nil _, HB1.out.alloc HB1.out.size _⟩
  | some s =>
    rw [hc] at hck
    rw [Cm.keysOf_some hc]
    obtain ⟨h0, h1, hf, hcn⟩ := Cm.check_parts hc
    have hok := Cm.findS_ok hf
    have hshort := Cm.keysS_short (s := s) (ws := ws) fun x => HW.out.len (k := x)
    have hklen : (Cm.keysS s ws).length ≤ 1000 := by
      have hl := Cm.countOk_least hcn
      rw [Cm.keysS_len]
      obtain ⟨_, _, _, _, _, _, hh⟩ := id hok
      rcases hh with ⟨hf0, _⟩ | ⟨hf1, hst, _⟩
      · simp [Cm.cnt, hf0]
      · have hll := Cm.lastI_lt hok hf1 hl
        unfold Cm.cnt
        rw [if_neg (by omega)]
        split <;> omega
    have hcol : ∀ (w2 w3 : World) (B1 : Nat), Below w.heap.size w w2 → w2.heap.size = B1 → w3 = (w2.alloc (.cells (spL s).toArray 76)).alloc (.cells #[.slice a ws.length cap] 31) →
        CallsIn Fence.wide 0 Tryz.prog 41 #[.func (.func 50) #[] #[.pointer (some ⟨B1, 0, none⟩), .pointer (some ⟨B1 + 1, 0, none⟩)]] w3 (KOut w (Cm.keysS s ws)) := by
      rintro w2 w3 B1 hb2 rfl rfl
      obtain ⟨w3, hw3⟩ : ∃ w3, (w2.alloc (.cells (spL s).toArray 76)).alloc (.cells #[.slice a ws.length cap] 31) = w3 := ⟨_, rfl⟩
      have k1 : SpBox w3 w2.heap.size s := by rw [← hw3]; exact ((Keeps.refl (fun _ => True) _).alloc _).heap (World.alloc_heap_new w2 _) trivial
      have k2 : Boxed w3 (w2.heap.size + 1) 31 (.slice a ws.length cap) := by
        rw [← hw3]
        have := Boxed.new (w2.alloc (.cells (spL s).toArray 76)) 31 (.slice a ws.length cap)
        rwa [World.size_alloc] at this
      have hs3 : w3.heap.size = w2.heap.size + 2 := by rw [← hw3]; simp
      have hb3 : Below w.heap.size w w3 := by rw [← hw3]; exact (hb2.alloc hb2.size _).alloc (by have := hb2.size; simp; omega) _
      rw [hw3]
      have hwd := HW.out.later hb3
      have hsq := cmKeys_seq w2.heap.size (w2.heap.size + 1) s a cap ws w3 k1 k2 (by omega) hwd hok hcn (fun k => k = w2.heap.size ∨ k = w2.heap.size + 1 ∨ (k < w3.heap.size ∧ ∃ off, a = some ⟨k, off, none⟩)) (fun _ => False) (fun k hk => hk.imp id (Or.imp id fun ⟨o, e⟩ => ⟨by
        obtain ⟨b, off, ha, hb, _⟩ := hwd.get h0
        rw [ha] at e
        cases e
        exact hb, o, e⟩))
      refine (cmCollect_any _ _ (enters_of Tryz.func50 (by kernel_rfl) rfl) true _ _ _ _ w3 w3 (by rw [← Cm.keysS_len]; omega) hsq (Below.refl _ _) (fun k hk => by rcases hk with rfl | rfl | hk <;> omega)).mono ?_
      rintro e W4 ⟨v, ys, rfl, rfl, hrow, -, hB⟩
      obtain ⟨a', cap', rfl, hwd', -⟩ := wds_of_row hrow hshort
      exact ⟨a', cap', rfl, hwd', hb3.trans (hB.mono hb3.size)⟩
    have HCO := Lib.hid hcol
    clear hc hcol hf hcn hok hshort hklen h0 h1
    obtain ⟨nm, least, most, first, last, step, wb⟩ := s
    refine callsIn_of_wp Tryz.func27 rfl trivial ?_ rfl
    simp only [Tryz.ntmps27, List.size_toArray, List.length_cons, List.length_nil, Nat.reduceAdd, Nat.reduceSub, Array.replicate_succ, Array.replicate_zero, List.push_toArray, List.append_toArray, List.nil_append, List.cons_append]
    gi_wp2_with (refine ⟨trivial, rfl, ?_⟩; refine hck.mono ?_; rintro e w1 ⟨rfl, hb1⟩; have HB1 := Lib.hid hb1; clear hb1; simp only [spV])
    refine ⟨trivial, rfl, (keysIter_any ⟨nm, least, most, first, last, step, wb⟩ _ _ _ _).mono ?_⟩
    rintro e w3 ⟨rfl, hw3⟩
    have hc3 := HCO.out _ w3 (w1.heap.size + 1) (HB1.out.alloc HB1.out.size _) (by simp) hw3
    have HC3 := Lib.hid hc3
    clear hw3 hc3
    gi_wp2_with (refine ⟨trivial, rfl, ?_⟩; refine HC3.out.mono ?_; rintro e w4 ⟨a', cap', rfl, hw4⟩; have HW4 := Lib.hid hw4; clear hw4)
    go_ret
    exact ⟨a', cap', rfl, HW4.out⟩

end Go.Proofs.YtokcbcjonbjkgaaGreatDoor
