/- The contract of the reader's bulk. -/
import Derived.Test.YtcjbfgkmpoebgaaDoorRpReadA
namespace Go.Proofs.YtcjbfgkmpoebgaaDoor
open Go.RowKit Go.Shelf
attribute [local go_sem] Oper.semAt_some

/-- four stores into a block of four cells. -/
def set4 (A : World) (b : Nat) (x y z u : Value) : World := (((A.setCell ⟨b, 0, none⟩ x).setCell ⟨b, 1, none⟩ y).setCell ⟨b, 2, none⟩ z).setCell ⟨b, 3, none⟩ u

theorem heap_four {A : World} {b t : Nat} {p q r s : Value} (h : A.heap[b]? = some (.cells #[p, q, r, s] t (0, 0))) (x y z u : Value) : (set4 A b x y z u).heap[b]? = some (.cells #[x, y, z, u] t (0, 0)) := by
  simp [set4, World.setCell, Array.getElem?_modify, h]

theorem cells_four' {A : World} {b t : Nat} {x y z u : Value} (h : A.heap[b]? = some (.cells #[x, y, z, u] t (0, 0))) : A.cell? ⟨b, 0, none⟩ = some x ∧ A.cell? ⟨b, 1, none⟩ = some y ∧ A.cell? ⟨b, 2, none⟩ = some z ∧ A.cell? ⟨b, 3, none⟩ = some u ∧ A.frozen? ⟨b, 0, none⟩ = false ∧ A.frozen? ⟨b, 1, none⟩ = false ∧ A.frozen? ⟨b, 2, none⟩ = false ∧ A.frozen? ⟨b, 3, none⟩ = false := by
  simp [World.cell?, World.frozen?, h]

theorem keeps_set4 {T : Nat → Prop} {w A : World} (h : Keeps T w A) {b : Nat} (hb : w.heap.size ≤ b ∨ ¬ T b) (x y z u : Value) : Keeps T w (set4 A b x y z u) :=
  (((h.setCell (p := ⟨b, 0, none⟩) hb x).setCell (p := ⟨b, 1, none⟩) hb y).setCell (p := ⟨b, 2, none⟩) hb z).setCell (p := ⟨b, 3, none⟩) hb u

theorem set4_size (A : World) (b : Nat) (x y z u : Value) : (set4 A b x y z u).heap.size = A.heap.size := by simp [set4]

/-- the reply's box, new, and what was not read yet, in the worlds of a call. -/
theorem box_kept {w W : World} {Pb : Nat} {cs : Array Value} (hk : Keeps (fun k => k ≠ Pb) (w.alloc (.cells cs 24)) W) (hP : Pb < w.heap.size) : W.heap[w.heap.size]? = some (.cells cs 24 (0, 0)) :=
  hk.heap (World.alloc_heap_new w _) (by omega)

set_option maxRecDepth 100000 in
set_option maxHeartbeats 4000000 in
theorem bulk_any (S : Nat → Prop) (Pb : Nat) (bs : List UInt8) (w : World) (h : Rst S Pb w bs) (hS : ¬ S Pb) (hSlt : ∀ k, S k → k < w.heap.size) (henv : Env w) :
    Calls Tryd.prog 40 #[.pointer (some ⟨Pb, 0, none⟩)] w (ROut S Pb w (Rp.bulkD bs)) := by
  have hPb := h.lt
  obtain ⟨w1, hw1⟩ : ∃ w1, w.alloc (.cells #[.int .i64 0, .string ⟨#[]⟩, .int .i64 0, .slice none 0 0] 24) = w1 := ⟨_, rfl⟩
  have hk1 : Keeps (fun _ => True) w w1 := by rw [← hw1]; exact (Keeps.refl _ _).alloc _
  have hs1 : w1.heap.size = w.heap.size + 1 := by rw [← hw1]; simp
  have hr1 : Rst S Pb w1 bs := h.keeps hk1 (fun _ _ => trivial) trivial
  have hnum := number_any S Pb bs (-1) 1048576 w1 hr1 hS (fun k hk => by have := hSlt k hk; omega) (by omega) (by omega) (by omega) (by omega) (henv.keeps hk1 (fun _ _ => trivial))
  have HBK : Hid (∀ W, Keeps (fun k => k ≠ Pb) w1 W → W.heap[w.heap.size]? = some (.cells #[.int .i64 0, .string ⟨#[]⟩, .int .i64 0, .slice none 0 0] 24 (0, 0))) := Lib.hid fun W hk => by rw [← hw1] at hk; exact box_kept hk hPb
  have HK1 := Lib.hid hk1
  have HS1 := Lib.hid hs1
  have HSlt := Lib.hid hSlt
  have HENV := Lib.hid henv
  have HPb := Lib.hid hPb
  have HW1 := Lib.hid hw1
  clear hw1 hk1 hs1 hr1 h henv hSlt
  cases ho : Rp.devP (-1) 1048576 bs with
  | err c =>
    rw [ho] at hnum
    have HR : Hid (Rp.bulkD bs = .err c) := Lib.hid (by unfold Rp.bulkD; rw [ho]; rfl)
    have hc := devP_err ho
    clear ho
    have hc' : ¬ c = 0 := by omega
    go_enter Tryd.func40, Tryd.ntmps40
    go_wp2_with (rw [HW1.out]; go_at_call 39; refine hnum.mono ?_; rintro e w2 ⟨hk2, n, rfl⟩; obtain ⟨b0, b1, b2, b3, f0, f1, f2, f3⟩ := cells_four' (HBK.out w2 hk2); have HK2 := Lib.hid hk2; clear hk2)
    obtain ⟨h0, h1, h2, h3⟩ := cells_four (heap_four (HBK.out w2 HK2.out) (.int .i64 0) (.string ⟨#[]⟩) (.int .i64 0) (.slice none 0 0))
    refine bodyPost_ret (results_cellt (t := 2) (u := 3) (T := 24) (p := ⟨w.heap.size, 0, none⟩) rfl rfl (loadVar24 _ _ _ _ _ _ h0 h1 h2 h3)) rfl ?_
    rw [HR.out]
    exact ⟨keeps_set4 ((HK1.out.mono fun _ _ _ => trivial).trans (HK2.out)) (.inl (Nat.le_refl _)) _ _ _ _, by omega, _, _, _, _, _, _, rfl⟩
  | ok n r =>
    rw [ho] at hnum
    obtain ⟨hn0, hn1, hrl⟩ := devP_range ho
    by_cases hneg : n < 0
    · have HR : Hid (Rp.bulkD bs = .ok (.mk 5 [] 0 []) r) := Lib.hid (by unfold Rp.bulkD; rw [ho]; exact if_pos hneg)
      clear ho
      go_enter Tryd.func40, Tryd.ntmps40
      go_wp2_with (rw [HW1.out]; go_at_call 39; refine hnum.mono ?_; rintro e w2 ⟨hk2, rfl, hr2⟩; obtain ⟨b0, b1, b2, b3, f0, f1, f2, f3⟩ := cells_four' (HBK.out w2 hk2); have HK2 := Lib.hid hk2; have HR2 := Lib.hid hr2; clear hk2 hr2)
      obtain ⟨h0, h1, h2, h3⟩ := cells_four (heap_four (HBK.out w2 HK2.out) (.int .i64 5) (.string ⟨#[]⟩) (.int .i64 0) (.slice none 0 0))
      refine bodyPost_ret (results_cellt (t := 2) (u := 3) (T := 24) (p := ⟨w.heap.size, 0, none⟩) rfl rfl (loadVar24 _ _ _ _ _ _ h0 h1 h2 h3)) rfl ?_
      rw [HR.out]
      refine ⟨keeps_set4 ((HK1.out.mono fun _ _ _ => trivial).trans (HK2.out)) (.inl (Nat.le_refl _)) _ _ _ _, ⟨_, rfl, rep_plain (by unfold Fit; simp)⟩, ?_⟩
      exact HR2.out.keeps (T := fun k => k ≠ w.heap.size) (keeps_set4 (Keeps.refl _ w2) (.inr fun h => h rfl) _ _ _ _) (fun k hk => by have := HSlt.out k hk; omega) (by have := HPb.out; omega)
    · obtain ⟨m, rfl⟩ : ∃ m : Nat, n = m := ⟨n.toNat, by omega⟩
      have HR : Hid (Rp.bulkD bs = (Rp.textP m r).map fun s => .mk 4 s 0 []) := Lib.hid (by unfold Rp.bulkD; rw [ho]; exact if_neg (t := Rp.Out.ok (Rp.R.mk 5 [] 0 []) r) hneg)
      have HTX : Hid (∀ w2, Keeps (fun k => k ≠ Pb) w1 w2 → Rst S Pb w2 r → Calls Tryd.prog 50 #[.pointer (some ⟨Pb, 0, none⟩), .int .i64 m] w2 (TOut S Pb w2 (Rp.textP m r))) := Lib.hid fun w2 _ hr => text_any S Pb r m w2 hr hS
      have hm : ¬ (m : Int) < 0 := hneg
      cases ht : Rp.textP m r with
      | err c =>
        have hc := textP_err ht
        rw [ht] at HTX HR
        clear ho ht
        have hc' : ¬ c = 0 := by omega
        go_enter Tryd.func40, Tryd.ntmps40
        go_wp2_with (first
          | (rw [HW1.out]; go_at_call 39; refine hnum.mono ?_; rintro e w2 ⟨hk2, rfl, hr2⟩; have HK2 := Lib.hid hk2; have HR2 := Lib.hid hr2; clear hk2 hr2)
          | (go_at_call 50; refine (HTX.out w2 HK2.out HR2.out).mono ?_; rintro e w3 ⟨hk3, rfl⟩; have HK3 := Lib.hid (HK2.out.trans hk3); obtain ⟨b0, b1, b2, b3, f0, f1, f2, f3⟩ := cells_four' (HBK.out w3 HK3.out); clear hk3))
        obtain ⟨h0, h1, h2, h3⟩ := cells_four (heap_four (HBK.out w3 HK3.out) (.int .i64 4) (.string ⟨#[]⟩) (.int .i64 0) (.slice none 0 0))
        refine bodyPost_ret (results_cellt (t := 2) (u := 3) (T := 24) (p := ⟨w.heap.size, 0, none⟩) rfl rfl (loadVar24 _ _ _ _ _ _ h0 h1 h2 h3)) rfl ?_
        rw [HR.out]
        exact ⟨keeps_set4 ((HK1.out.mono fun _ _ _ => trivial).trans (HK3.out)) (.inl (Nat.le_refl _)) _ _ _ _, by omega, _, _, _, _, _, _, rfl⟩
      | ok s t =>
        have hsl : s.length ≤ 1048576 := by
          unfold Rp.textP at ht
          split at ht
          · cases ht
          · rw [Rp.endP_cases] at ht
            split at ht
            · injection ht with ht _
              rw [← ht, List.length_take]
              omega
            · split at ht <;> cases ht
        rw [ht] at HTX HR
        clear ho ht
        go_enter Tryd.func40, Tryd.ntmps40
        go_wp2_with (first
          | (rw [HW1.out]; go_at_call 39; refine hnum.mono ?_; rintro e w2 ⟨hk2, rfl, hr2⟩; have HK2 := Lib.hid hk2; have HR2 := Lib.hid hr2; clear hk2 hr2)
          | (go_at_call 50; refine (HTX.out w2 HK2.out HR2.out).mono ?_; rintro e w3 ⟨hk3, rfl, hr3⟩; have HK3 := Lib.hid (HK2.out.trans hk3); have HR3 := Lib.hid hr3; obtain ⟨b0, b1, b2, b3, f0, f1, f2, f3⟩ := cells_four' (HBK.out w3 HK3.out); clear hk3 hr3))
        obtain ⟨h0, h1, h2, h3⟩ := cells_four (heap_four (HBK.out w3 HK3.out) (.int .i64 4) (.string ⟨s.toArray⟩) (.int .i64 0) (.slice none 0 0))
        refine bodyPost_ret (results_cellt (t := 2) (u := 3) (T := 24) (p := ⟨w.heap.size, 0, none⟩) rfl rfl (loadVar24 _ _ _ _ _ _ h0 h1 h2 h3)) rfl ?_
        rw [HR.out]
        refine ⟨keeps_set4 ((HK1.out.mono fun _ _ _ => trivial).trans (HK3.out)) (.inl (Nat.le_refl _)) _ _ _ _, ⟨_, rfl, rep_plain (by unfold Fit; omega)⟩, ?_⟩
        exact HR3.out.keeps (T := fun k => k ≠ w.heap.size) (keeps_set4 (Keeps.refl _ w3) (.inr fun h => h rfl) _ _ _ _) (fun k hk => by have := HSlt.out k hk; omega) (by have := HPb.out; omega)
end Go.Proofs.YtcjbfgkmpoebgaaDoor
