/- The contracts of the reader's near and text. -/
import Derived.Test.YtcjbfgkmpoebgaaDoorRpBytes
import Derived.Deep.RegionHeld3
namespace Go.Proofs.YtcjbfgkmpoebgaaDoor
open Go.RowKit Go.Shelf
attribute [local go_sem] Oper.semAt_some

theorem addr_add_zero (x : Addr) : x.add 0 = x := by
  unfold Addr.add
  split <;> simp_all

theorem sliced_zero (a : Option Addr) (h m : Nat) : sliced a 0 h m 1 = .slice a h m := by
  have : a.map (fun x => x.add 0) = a := by
    cases a with
    | none => rfl
    | some x => simp [addr_add_zero]
  unfold sliced
  rw [Nat.zero_mul, this]
  simp

set_option maxRecDepth 100000 in
set_option maxHeartbeats 1000000 in
theorem near_any (Pb len cap : Nat) (a : Option Addr) (n : Nat) (w : World) (hc : w.cell? ⟨Pb, 0, none⟩ = some (.slice a len cap)) (hl : len ≤ cap) :
    Calls Tryd.prog 48 #[.pointer (some ⟨Pb, 0, none⟩), .int .i64 n] w fun e w' => e = .returned (.slice a (min len n) cap) ∧ Below w.heap.size w w' := by
  have HB : Hid (Below w.heap.size w w) := Lib.hid (Below.refl _ _)
  obtain ⟨mn, hmn⟩ : ∃ mn : Nat, min len n = mn := ⟨_, rfl⟩
  have hmi : min (len : Int) (n : Int) = (mn : Int) := by omega
  have hm0 : (0 : Int) ≤ (mn : Int) := by omega
  have hm1 : (mn : Int) ≤ (cap : Int) := by omega
  rw [hmn]
  have HM := Lib.hid hmn
  clear hmn
  go_enter Tryd.func48, Tryd.ntmps48
  go_upto_region 1 with (fail)
  go_region_held3 (fun w' => w'.cell? ⟨Pb, 0, none⟩ = some (.slice a len cap)) (go_keep) (fail)
  go_wp2
  go_ret
  exact ⟨rfl, HB.out.drew⟩

namespace Rp
theorem endP_cases {α : Type} (a : α) (b : List UInt8) : endP a b = if crlf.isPrefixOf b then .ok a (b.drop 2) else if b.isPrefixOf crlf then .err 6 else .err 5 := by
  unfold crlf
  match b with
  | [] => rfl
  | [x] =>
    unfold endP
    by_cases h : x = 13 <;> simp [h, List.isPrefixOf]
  | x :: y :: t =>
    unfold endP
    by_cases h : x = 13
    · by_cases h2 : y = 10
      · simp [h, h2, List.isPrefixOf]
      · simp [h, h2, List.isPrefixOf]
        exact fun e => h2 e.symm
    · simp [h, List.isPrefixOf]
      intro e
      exact absurd e.symm h
end Rp

theorem hasPrefix_crlf (D : List UInt8) : Lib.hasPrefix (Lib.bytesOf (nums D)) (Lib.bytesOf (nums Rp.crlf)) = Rp.crlf.isPrefixOf D := by rw [nums_bytes, nums_bytes]; rfl
theorem hasPrefix_crlf' (D : List UInt8) : Lib.hasPrefix (Lib.bytesOf (nums Rp.crlf)) (Lib.bytesOf (nums D)) = D.isPrefixOf Rp.crlf := by rw [nums_bytes, nums_bytes]; rfl

theorem crlf_in {W : World} {g : Nat} (h0 : W.heap[g]? = some (.cells #[.int .u8 13, .int .u8 10] 5 (2, 3))) : Lib.BytesIn W (some ⟨g, 0, none⟩) 2 (nums Rp.crlf) := fun _ => ⟨g, 0, rfl, fun i hi => by
  match i, hi with
  | 0, _ => simp [World.cell?, h0, nums, Rp.crlf]
  | 1, _ => simp [World.cell?, h0, nums, Rp.crlf]⟩

theorem cut_some (S : Nat → Prop) (W : World) (a : Option Addr) (cap g : Nat) (D : List UInt8) (h : Bt S W a cap D) (hg : W.heap[g]? = some (.cells #[.int .u8 13, .int .u8 10] 5 (2, 3))) (hp : Rp.crlf.isPrefixOf D = true) :
    ∃ a' cap', Bt S W a' cap' (D.drop 2) ∧ Calls Tryd.prog 68 #[.slice a D.length cap, .slice (some ⟨g, 0, none⟩) 2 2] W fun e W' => e = .returned (.tuple #[.slice a' (D.drop 2).length cap', .bool true]) ∧ W' = W := by
  have hc := Tryd.bytes_CutPrefix_all a (some ⟨g, 0, none⟩) D.length cap 2 2 (nums D) (nums Rp.crlf) W (nums_len D) rfl h.1 h.bytesIn (crlf_in hg)
  rw [hasPrefix_crlf, hp] at hc
  have hl : 2 ≤ D.length := by
    have := (List.isPrefixOf_iff_prefix.1 hp).length_le
    simpa [Rp.crlf] using this
  refine ⟨_, _, h.from hl, hc.mono ?_⟩
  rintro e w' ⟨rfl, rfl⟩
  refine ⟨?_, rfl⟩
  rcases h.2.2 with rfl | ⟨b, off, rfl, _, _, _⟩
  · simp at hl
  · have e1 : Lib.trimPrefixV (some ⟨b, off, none⟩) D.length cap (nums D) (nums Rp.crlf) = Lib.bytesTrimPrefix b off D.length cap (nums D) (nums Rp.crlf) := rfl
    rw [e1]
    unfold Lib.bytesTrimPrefix
    rw [hasPrefix_crlf, hp, if_pos rfl]
    unfold Lib.sliceFrom
    rw [List.length_drop, nums_len]
    by_cases hc : cap = 2 <;> simp [hc, Rp.crlf, Addr.add]

theorem cut_none (S : Nat → Prop) (W : World) (a : Option Addr) (cap g : Nat) (D : List UInt8) (h : Bt S W a cap D) (hg : W.heap[g]? = some (.cells #[.int .u8 13, .int .u8 10] 5 (2, 3))) (hp : Rp.crlf.isPrefixOf D = false) :
    ∃ v, Calls Tryd.prog 68 #[.slice a D.length cap, .slice (some ⟨g, 0, none⟩) 2 2] W fun e W' => e = .returned (.tuple #[v, .bool false]) ∧ W' = W := by
  have hc := Tryd.bytes_CutPrefix_all a (some ⟨g, 0, none⟩) D.length cap 2 2 (nums D) (nums Rp.crlf) W (nums_len D) rfl h.1 h.bytesIn (crlf_in hg)
  rw [hasPrefix_crlf, hp] at hc
  exact ⟨_, hc⟩

theorem pre_any (S : Nat → Prop) (W : World) (a : Option Addr) (cap g : Nat) (D : List UInt8) (h : Bt S W a cap D) (hg : W.heap[g]? = some (.cells #[.int .u8 13, .int .u8 10] 5 (2, 3))) :
    Calls Tryd.prog 69 #[.slice (some ⟨g, 0, none⟩) 2 2, .slice a D.length cap] W fun e W' => e = .returned (.bool (D.isPrefixOf Rp.crlf)) ∧ W' = W := by
  have hc := Tryd.bytes_HasPrefix_all (some ⟨g, 0, none⟩) a 2 2 D.length cap (nums Rp.crlf) (nums D) W rfl (nums_len D) (Nat.le_refl _) (crlf_in hg) h.bytesIn
  rwa [hasPrefix_crlf'] at hc

set_option maxRecDepth 100000 in
set_option maxHeartbeats 4000000 in
theorem text_any (S : Nat → Prop) (Pb : Nat) (bs : List UInt8) (n : Nat) (w : World) (h : Rst S Pb w bs) (hS : ¬ S Pb) :
    Calls Tryd.prog 50 #[.pointer (some ⟨Pb, 0, none⟩), .int .i64 n] w (TOut S Pb w (Rp.textP n bs)) := by
  obtain ⟨a, cap, hbx, hbt⟩ := h
  have hc := (show w.cell? ⟨Pb, 0, none⟩ = some (.slice a bs.length cap) by simp [World.cell?, hbx])
  have hfz := (show w.frozen? ⟨Pb, 0, none⟩ = false by simp [World.frozen?, hbx])
  have hl := hbt.1
  have hcap := hbt.2.1
  by_cases hlt : bs.length < n
  · have hi : (bs.length : Int) < (n : Int) := by omega
    have HR : Hid (Rp.textP n bs = .err 6) := Lib.hid (by unfold Rp.textP; rw [if_pos hlt])
    clear hlt
    go_enter Tryd.func50, Tryd.ntmps50
    go_wp2
    go_ret2
    rw [HR.out]
    exact ⟨Keeps.refl _ _, rfl⟩
  · have hi : (n : Int) ≤ (bs.length : Int) := by omega
    have hi2 : (n : Int) ≤ (cap : Int) := by omega
    have hcv : ∀ W' : World, (convert 28 28 (.slice (some ⟨W'.heap.size, 0, none⟩) 2 2)).run Tryd.prog (W'.alloc (.cells #[.int .u8 13, .int .u8 10] 5)) = .ok (.slice (some ⟨W'.heap.size, 0, none⟩) 2 2) (W'.alloc (.cells #[.int .u8 13, .int .u8 10] 5 (2, 3))) :=
      fun W' => Lib.run_convert_bytes_const W' 28 5 #[.int .u8 13, .int .u8 10] 2 2 Tryd.underlying28 Tryd.underlying5
    have hbd := hbt.from (n := n) (by omega)
    have hconv := (hbt.to n).conv
    rw [List.length_take, show min n bs.length = n by omega] at hconv
    obtain ⟨va, hva⟩ : ∃ va, (if cap = n then a else a.map fun x => x.add n) = va := ⟨_, rfl⟩
    rw [hva] at hbd
    have HR : Hid (Rp.textP n bs = if Rp.crlf.isPrefixOf (bs.drop n) then .ok (bs.take n) ((bs.drop n).drop 2) else if (bs.drop n).isPrefixOf Rp.crlf then .err 6 else .err 5) := Lib.hid (by unfold Rp.textP; rw [if_neg hlt, Rp.endP_cases])
    have hld : (bs.drop n).length = bs.length - n := List.length_drop
    have HD := Lib.hid hld
    have HBD := Lib.hid hbd
    have HBT := Lib.hid hbt
    have HBX := Lib.hid hbx
    have hcase : (n = cap ∧ a = va) ∨ (¬ cap = n ∧ (a.map fun x => x.add n) = va) := by
      by_cases h : cap = n
      · exact .inl ⟨h.symm, by rw [← hva, if_pos h]⟩
      · exact .inr ⟨h, by rw [← hva, if_neg h]⟩
    clear hld hbd hbt hlt hva
    go_enter Tryd.func50, Tryd.ntmps50
    go_upto_region 3 with (fail)
    rcases hcase with ⟨hcn, hv⟩ | ⟨hcn, hv⟩ <;> subst hv
    · subst hcn
      rw [Nat.sub_self] at HBD
      go_region_held3 (fun w' => w'.cell? ⟨Pb, 0, none⟩ = some (.slice a bs.length n)) (go_keep) (fail)
      obtain ⟨wd, hwd⟩ : ∃ wd, w.drew = wd := ⟨_, rfl⟩
      rw [hwd]
      have HBl : Hid (Below w.heap.size w wd) := Lib.hid (by rw [← hwd]; exact (Below.refl _ _).drew)
      have HR2 : Hid (Rp.textP n bs = .err 6) := Lib.hid (by rw [HR.out, List.drop_eq_nil_of_le hl]; rfl)
      clear hwd hc hfz hconv
      obtain ⟨W4, hW4⟩ : ∃ W4, wd.alloc (.cells #[.int .u8 13, .int .u8 10] 5 (2, 3)) = W4 := ⟨_, rfl⟩
      obtain ⟨W5, hW5⟩ : ∃ W5, W4.alloc (.cells #[.int .u8 13, .int .u8 10] 5 (2, 3)) = W5 := ⟨_, rfl⟩
      have HF2 : Hid (TOut S Pb w (Rp.textP n bs) (.returned (.tuple #[.string ⟨#[]⟩, .int .i64 6])) W5) := Lib.hid (by
        rw [HR2.out, ← hW5, ← hW4]
        exact ⟨Keeps.of_below (HBl.out.alloc HBl.out.size _ |>.alloc (by simp; have := HBl.out.size; omega) _) fun k h _ => h, rfl⟩)
      have HW4 := Lib.hid hW4
      have HW5 := Lib.hid hW5
      clear hW4 hW5
      go_wp2_with (first
        | (rw [HW4.out]; go_at_call 68; refine (Tryd.bytes_CutPrefix_e1 _ _ _ _ _ (by omega) _).mono ?_; rintro e w' ⟨rfl, hw'⟩; have HW' := Lib.hid hw'; clear hw')
        | (rw [HW'.out, HW5.out]; go_at_call 69; refine (Tryd.bytes_HasPrefix_e2 _ _ _ _ _ _).mono ?_; rintro e w'' ⟨rfl, hw''⟩; have HW'' := Lib.hid hw''; clear hw''))
      go_ret2
      rw [HW''.out]
      exact HF2.out
    · go_region_held3 (fun w' => w'.cell? ⟨Pb, 0, none⟩ = some (.slice a bs.length cap)) (go_keep) (fail)
      obtain ⟨wd, hwd⟩ : ∃ wd, w.drew = wd := ⟨_, rfl⟩
      rw [hwd]
      have HBl : Hid (Below w.heap.size w wd) := Lib.hid (by rw [← hwd]; exact (Below.refl _ _).drew)
      have hszd : Hid (w.heap.size ≤ wd.heap.size ∧ Pb < w.heap.size) := Lib.hid ⟨HBl.out.size, (Array.getElem?_eq_some_iff.1 HBX.out).1⟩
      clear hwd hc hfz hconv hbx
      obtain ⟨W4, hW4⟩ : ∃ W4, wd.alloc (.cells #[.int .u8 13, .int .u8 10] 5 (2, 3)) = W4 := ⟨_, rfl⟩
      have hb4 : Below w.heap.size w W4 := by rw [← hW4]; exact HBl.out.alloc HBl.out.size _
      have hg : W4.heap[wd.heap.size]? = some (.cells #[.int .u8 13, .int .u8 10] 5 (2, 3)) := by rw [← hW4]; exact World.alloc_heap_new wd _
      have hbx4 := (hb4.block Pb hszd.out.2).trans HBX.out
      have hcc := Boxed.cell hbx4
      have hff := Boxed.frozen hbx4
      have HBT4 := Lib.hid (HBT.out.later hb4)
      have HBD4 := Lib.hid (HBD.out.later hb4)
      have HB4 := Lib.hid hb4
      cases hp1 : Rp.crlf.isPrefixOf (bs.drop n) with
      | true =>
        obtain ⟨a', cap', hbt', hcut⟩ := cut_some S W4 _ _ wd.heap.size _ HBD4.out hg hp1
        rw [HD.out] at hcut
        have hconv : (convert 28 9 (.slice a n cap)).run Tryd.prog (W4.setCell ⟨Pb, 0, none⟩ (.slice a' ((bs.drop n).drop 2).length cap')) = .ok (.string ⟨(bs.take n).toArray⟩) (W4.setCell ⟨Pb, 0, none⟩ (.slice a' ((bs.drop n).drop 2).length cap')) := by
          have := ((HBT4.out.to n).keeps (S' := S) ((Keeps.refl S W4).setCell (p := ⟨Pb, 0, none⟩) (.inr hS) (.slice a' ((bs.drop n).drop 2).length cap')) fun _ h => h).conv
          rwa [List.length_take, show min n bs.length = n by omega] at this
        have HF : Hid (TOut S Pb w (Rp.textP n bs) (.returned (.tuple #[.string ⟨(bs.take n).toArray⟩, .int .i64 0])) (W4.setCell ⟨Pb, 0, none⟩ (.slice a' ((bs.drop n).drop 2).length cap'))) := Lib.hid (by
          rw [HR.out, hp1, if_pos rfl]
          exact ⟨(Keeps.of_below hb4 fun k h _ => h).setCell (.inr (fun h => h rfl)) _, rfl, Rst.set hbx4 hS hbt'⟩)
        have HW4 := Lib.hid hW4
        clear hW4 hb4 hbx4 hg hp1 hbt'
        generalize ((bs.drop n).drop 2).length = m2 at hcut hconv HF
        go_wp2_with (first
          | (rw [HW4.out]; go_at_call 68; refine hcut.mono ?_; rintro e w' ⟨rfl, rfl⟩))
        go_ret2
        exact HF.out
      | false =>
        obtain ⟨v, hcut⟩ := cut_none S W4 _ _ wd.heap.size _ HBD4.out hg hp1
        rw [HD.out] at hcut
        obtain ⟨W5, hW5⟩ : ∃ W5, W4.alloc (.cells #[.int .u8 13, .int .u8 10] 5 (2, 3)) = W5 := ⟨_, rfl⟩
        have hb5 : Below w.heap.size w W5 := by rw [← hW5]; exact hb4.alloc hb4.size _
        have hg5 : W5.heap[W4.heap.size]? = some (.cells #[.int .u8 13, .int .u8 10] 5 (2, 3)) := by rw [← hW5]; exact World.alloc_heap_new W4 _
        have hpre := pre_any S W5 _ _ W4.heap.size _ (HBD.out.later hb5) hg5
        rw [HD.out] at hpre
        have HF : Hid (∀ q, (bs.drop n).isPrefixOf Rp.crlf = q → TOut S Pb w (Rp.textP n bs) (.returned (.tuple #[.string ⟨#[]⟩, .int .i64 (if q then 6 else 5)])) W5) := Lib.hid (fun q hq => by
          rw [HR.out, hp1, hq]
          cases q
          · exact ⟨Keeps.of_below hb5 fun k h _ => h, rfl⟩
          · exact ⟨Keeps.of_below hb5 fun k h _ => h, rfl⟩)
        have HW4 := Lib.hid hW4
        have HW5 := Lib.hid hW5
        obtain ⟨q, hq⟩ : ∃ q, (bs.drop n).isPrefixOf Rp.crlf = q := ⟨_, rfl⟩
        rw [hq] at hpre
        have HF2 := Lib.hid (HF.out q hq)
        clear hW4 hW5 hb4 hb5 hbx4 hg hg5 hp1 hq HF
        cases q <;>
          (go_wp2_with (first
            | (rw [HW4.out]; go_at_call 68; refine hcut.mono ?_; rintro e w' ⟨rfl, hw'⟩; have HW' := Lib.hid hw'; clear hw')
            | (rw [HW'.out, HW5.out]; go_at_call 69; refine hpre.mono ?_; rintro e w'' ⟨rfl, hw''⟩; have HW'' := Lib.hid hw''; clear hw''))
           go_ret2
           rw [HW''.out]
           exact HF2.out)
end Go.Proofs.YtcjbfgkmpoebgaaDoor
