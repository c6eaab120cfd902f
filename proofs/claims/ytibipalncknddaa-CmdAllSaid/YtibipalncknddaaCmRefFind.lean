/- The contract of the reference's Find. -/
import Derived.Test.YtibipalncknddaaCmTabRef
import Derived.Test.YtibipalncknddaaCmUpper
import Derived.Test.YtibipalncknddaaCmTexts
import Derived.Test.YtibipalncknddaaCmFind
import Derived.Deep.RegionHeld3
namespace Go.Proofs.Ytibipalncknddaa
open Go.RowKit Go.Shelf

theorem find_long {n : List UInt8} (h : 20 < n.length) : Cm.findS n = none := by
  apply Cm.find_done
  intro s hs
  have := (Cm.tab_ok s hs).2.1
  exact hit_len (by omega)

theorem zero_new (w : World) : SpBox (w.alloc (.cells (spL zeroSp).toArray 26)) w.heap.size zeroSp := World.alloc_heap_new w _

set_option maxRecDepth 100000 in
set_option maxHeartbeats 4000000 in
theorem refFind_any (n : List UInt8) (w : World) (hn : n.length ≤ 9223372036854775807) :
    Calls Try.prog 12 #[.string ⟨n.toArray⟩] w fun e W' => e = .returned (findV n) ∧ Below w.heap.size w W' := by
  have hnI : (n.length : Int) ≤ 9223372036854775807 := by omega
  by_cases hlong : 20 < n.length
  · have hf := find_long hlong
    have hl : (20 : Int) < (n.length : Int) := by omega
    have HF := Lib.hid hf
    have hz := zero_new w
    have HZ := Lib.hid hz
    clear hf hz
    go_enter Try.func12, Try.ntmps12
    go_wp2
    refine bodyPost_ret (results_cellt rfl rfl (loadVar26 _ _ _ HZ.out.at)) rfl ⟨?_, (Below.refl _ _).alloc (Nat.le_refl _) _⟩
    unfold findV
    rw [HF.out]
    rfl
  · have hl : (n.length : Int) ≤ 20 := by omega
    have hup := fun W => upper_any n W (by omega)
    have HU := Lib.hid hup
    have hz := zero_new w
    have hbz : Below w.heap.size w (w.alloc (.cells (spL zeroSp).toArray 26)) := (Below.refl _ _).alloc (Nat.le_refl _) _
    have HZ := Lib.hid hz
    have HBZ := Lib.hid hbz
    have HTL := Lib.hid Cm.tab_len
    clear hup hz hbz hlong
    go_enter Try.func12, Try.ntmps12
    go_wp2_with (go_at_call 24; refine (specs_any _).mono ?_; rintro e w1 ⟨b, rfl, ht, hb⟩; have HT := Lib.hid ht; have hz1 : SpBox w1 w.heap.size zeroSp := (Keeps.of_below (S := fun _ => True) hb (fun k h _ => by simpa using h)).heap HZ.out trivial; have HZ1 := Lib.hid hz1; have hb1 : Below w.heap.size w w1 := HBZ.out.trans (hb.mono (by simp)); have HB1 := Lib.hid hb1; clear ht hb hz1 hb1)
    go_loopw [3, 5] (fun r i wr => ∃ k : Nat, k ≤ 54 ∧ r = .bool false ∧ i = .int .i64 k ∧ Hid (∀ s ∈ Cm.tab.take k, Cm.hit n s = false) ∧ Hid (Below w1.heap.size w1 wr)) (fun _ i _ => 54 - (intOf i).toNat)
    case atStart => exact ⟨0, Nat.zero_le _, rfl, rfl, Lib.hid (by simp), Lib.hid (Below.refl _ _)⟩
    case round =>
      obtain ⟨k, hk, rfl, rfl, HH, HK⟩ := hrel
      by_cases hlt : k < 54
      · have hkt : k < Cm.tab.length := by rw [HTL.out]; exact hlt
        have htw : SpTab wr b Cm.tab := (HK.out.block b HT.out.lt).trans HT.out
        have hzw : SpBox wr w.heap.size zeroSp := (HK.out.block _ HZ1.out.lt).trans HZ1.out
        have hat := htw.at hkt
        have hblt := htw.lt
        have HTk := Lib.hid (List.take_succ_eq_append_getElem hkt)
        have HMem := Lib.hid (List.getElem_mem hkt)
        have HHit := Lib.hid (show ∀ r, Cm.hit n Cm.tab[k] = r → (Cm.tab[k].nm == Cm.upS n) = r from fun r h => h)
        have HStop := Lib.hid (show Cm.hit n Cm.tab[k] = true → Cm.findS n = some Cm.tab[k] from fun h => Cm.find_stop (pre := Cm.tab.take k) (by rw [← HTk.out]; exact List.take_prefix _ _) HH.out h)
        have HNext := Lib.hid (show Cm.hit n Cm.tab[k] = false → ∀ s ∈ Cm.tab.take (k + 1), Cm.hit n s = false from fun h s hs => by
          rw [HTk.out] at hs
          rcases List.mem_append.1 hs with h' | h'
          · exact HH.out s h'
          · rw [List.mem_singleton.1 h']; exact h)
        have HZw := Lib.hid hzw
        clear htw hzw HTk HMem
        have k0 : (0 : Int) ≤ (k : Int) := by omega
        have k1 : (k : Int) < 54 := by omega
        generalize Cm.tab[k] = s at *
        obtain ⟨nm, least, most, first, last, step, wb⟩ := s
        obtain ⟨c0, c1, c2, c3, c4, c5, c6⟩ := hat
        simp only at c0 c1 c2 c3 c4 c5 c6
        have HAt := Lib.hid (And.intro c1 (And.intro c2 (And.intro c3 (And.intro c4 (And.intro c5 c6)))))
        clear c1 c2 c3 c4 c5 c6
        cases hh : Cm.hit n ⟨nm, least, most, first, last, step, wb⟩ with
        | true =>
          have hq := HHit.out _ hh
          simp only at hq
          have HFS := Lib.hid (HStop.out hh)
          clear hh
          generalize Cm.upS n = un at *
          go_wp2
          go_region_held3 (fun w' => w'.cell? ⟨b, k * 7, none⟩ = some (.string ⟨nm.toArray⟩))
            (first | go_keep | exact (hb5.cell (p := ⟨b, k * 7, none⟩) hblt).trans c0)
            ((go_at_call 25; refine (HU.out _).mono ?_; rintro e w5 ⟨rfl, hb5⟩))
          have hbw5 : Below wr.heap.size wr w5 := ((Below.refl wr.heap.size wr).drew).trans hb5
          have d0 := (hbw5.cell (p := ⟨b, k * 7, none⟩) hblt).trans c0
          have d1 := (hbw5.cell (p := ⟨b, k * 7 + 1, none⟩) hblt).trans HAt.out.1
          have d2 := (hbw5.cell (p := ⟨b, k * 7 + 2, none⟩) hblt).trans HAt.out.2.1
          have d3 := (hbw5.cell (p := ⟨b, k * 7 + 3, none⟩) hblt).trans HAt.out.2.2.1
          have d4 := (hbw5.cell (p := ⟨b, k * 7 + 4, none⟩) hblt).trans HAt.out.2.2.2.1
          have d5 := (hbw5.cell (p := ⟨b, k * 7 + 5, none⟩) hblt).trans HAt.out.2.2.2.2.1
          have d6 := (hbw5.cell (p := ⟨b, k * 7 + 6, none⟩) hblt).trans HAt.out.2.2.2.2.2
          have z5 : SpBox w5 w.heap.size zeroSp := (hbw5.block _ HZw.out.lt).trans HZw.out
          obtain ⟨g0, g1, g2, g3, g4, g5, g6⟩ := z5.at
          have y0 := z5.free 0 (by omega)
          have y1 := z5.free 1 (by omega)
          have y2 := z5.free 2 (by omega)
          have y3 := z5.free 3 (by omega)
          have y4 := z5.free 4 (by omega)
          have y5 := z5.free 5 (by omega)
          have y6 := z5.free 6 (by omega)
          simp only [Nat.zero_add, zeroSp] at g0 g1 g2 g3 g4 g5 g6
          have HZ5 := Lib.hid z5
          have HB5 := Lib.hid (HB1.out.trans ((HK.out.trans (hbw5.mono HK.out.size)).mono HB1.out.size))
          clear hb5 hbw5 z5 c0
          go_wp2
          have hfin := HZ5.out.store ⟨nm, least, most, first, last, step, wb⟩
          have hbf : Below w.heap.size w (stSp w5 w.heap.size ⟨nm, least, most, first, last, step, wb⟩) := HB5.out.trans (((Keeps.refl (fun j => j < w.heap.size) w5).stSp (.inr (by simp)) _).below HB5.out.size fun j hj => hj)
          have hfv : findV n = .tuple #[spV ⟨nm, least, most, first, last, step, wb⟩, .bool true] := by unfold findV; rw [HFS.out]
          show bodyPost Try.prog Try.f12 _ .ret _ (stSp w5 w.heap.size ⟨nm, least, most, first, last, step, wb⟩)
          generalize stSp w5 w.heap.size ⟨nm, least, most, first, last, step, wb⟩ = w8 at *
          refine bodyPost_ret (results_cellt rfl rfl (loadVar26 _ _ _ hfin.at)) rfl ⟨?_, hbf⟩
          rw [hfv]
          rfl
        | false =>
          have hq := HHit.out _ hh
          simp only at hq
          have HN2 := Lib.hid (HNext.out hh)
          clear hh
          generalize Cm.upS n = un at *
          go_wp2
          go_region_held3 (fun w' => w'.cell? ⟨b, k * 7, none⟩ = some (.string ⟨nm.toArray⟩))
            (first | go_keep | exact (hb5.cell (p := ⟨b, k * 7, none⟩) hblt).trans c0)
            ((go_at_call 25; refine (HU.out _).mono ?_; rintro e w5 ⟨rfl, hb5⟩))
          have hbw5 : Below wr.heap.size wr w5 := ((Below.refl wr.heap.size wr).drew).trans hb5
          have HK5 := Lib.hid (HK.out.trans (hbw5.mono HK.out.size))
          clear hb5 hbw5 c0
          go_wp2
          go_roundw
          case rel => exact ⟨k + 1, by omega, rfl, by go_num, HN2, HK5⟩
          case measure => simp [intOf]; omega
      · obtain rfl : k = 54 := by omega
        have hfn := Cm.find_done (n := n) (by have := HH.out; rwa [List.take_of_length_le (by rw [HTL.out]; exact Nat.le_refl _)] at this)
        have HFn := Lib.hid hfn
        have z5 : SpBox wr w.heap.size zeroSp := (HK.out.block _ HZ1.out.lt).trans HZ1.out
        obtain ⟨g0, g1, g2, g3, g4, g5, g6⟩ := z5.at
        have y0 := z5.free 0 (by omega)
        have y1 := z5.free 1 (by omega)
        have y2 := z5.free 2 (by omega)
        have y3 := z5.free 3 (by omega)
        have y4 := z5.free 4 (by omega)
        have y5 := z5.free 5 (by omega)
        have y6 := z5.free 6 (by omega)
        simp only [Nat.zero_add, zeroSp] at g0 g1 g2 g3 g4 g5 g6
        have HZ5 := Lib.hid z5
        have HB5 := Lib.hid (HB1.out.trans (HK.out.mono HB1.out.size))
        clear hfn z5
        go_wp2
        have hfin := HZ5.out.store zeroSp
        have hbf : Below w.heap.size w (stSp wr w.heap.size zeroSp) := HB5.out.trans (((Keeps.refl (fun j => j < w.heap.size) wr).stSp (.inr (by simp)) _).below HB5.out.size fun j hj => hj)
        have hfv : findV n = .tuple #[spV zeroSp, .bool false] := by unfold findV; rw [HFn.out]
        show bodyPost Try.prog Try.f12 _ .ret _ (stSp wr w.heap.size zeroSp)
        generalize stSp wr w.heap.size zeroSp = w8 at *
        refine bodyPost_ret (results_cellt rfl rfl (loadVar26 _ _ _ hfin.at)) rfl ⟨?_, hbf⟩
        rw [hfv]
        rfl

end Go.Proofs.Ytibipalncknddaa
