/- The contracts of the parts of the table, and of the iterator over it. -/
import Derived.Test.YtokcbcjonbjkgaaGreatDoorCmEach
namespace Go.Proofs.YtokcbcjonbjkgaaGreatDoor
open Go.RowKit Go.Shelf
attribute [local go_sem] Oper.semAt_some

theorem flat_get (sub : List Cm.Sp) (k : Nat) (h : k < sub.length) (j : Nat) (hj : j < 7) : (sub.flatMap spL)[k * 7 + j]? = (spL sub[k])[j]? := by
  induction sub generalizing k with
  | nil => simp at h
  | cons s r ih =>
    rw [List.flatMap_cons]
    have hl : (spL s).length = 7 := rfl
    cases k with
    | zero => rw [List.getElem?_append_left (by omega)]; simp
    | succ k =>
      rw [List.getElem?_append_right (by omega), hl, show (k + 1) * 7 + j - 7 = k * 7 + j by omega, ih k (by simpa using h)]
      simp

theorem spRow_of {w : World} {b : Nat} {sub : List Cm.Sp} (h : w.heap[b]? = some (.cells (sub.flatMap spL).toArray 76 (0, 0))) : SpRow w b sub := by
  intro k hk
  have hc : ∀ j, j < 7 → w.cell? ⟨b, k * 7 + j, none⟩ = (spL sub[k])[j]? := fun j hj => by
    rw [cell_of_row _ _ _ _ 76 (0, 0) h]
    simpa using flat_get sub k hk j hj
  exact ⟨hc 0 (by omega), hc 1 (by omega), hc 2 (by omega), hc 3 (by omega), hc 4 (by omega), hc 5 (by omega), hc 6 (by omega)⟩

theorem part_out {B : Nat} {J Jx : (Nat → Prop) → List Cm.Sp → World → Prop} {pre sub : List Cm.Sp} {W W1 W' : World} {e : Ending} (h : PartOut B J Jx pre sub W1 e W') (hs : W.heap.size ≤ W1.heap.size) : PartOut B J Jx pre sub W e W' := ⟨Nat.le_trans hs h.1, h.2⟩

set_option maxRecDepth 100000 in
set_option maxHeartbeats 4000000 in
theorem ofNoKey_any (l : Nat) (Dt Pv : Nat → Prop) (B N : Nat) (J Jx : (Nat → Prop) → List Cm.Sp → World → Prop) (pre : List Cm.Sp) (O : Nat → Prop) (W : World) (hJ : AbidesT B Pv J) (hR : RoundOK l Dt Pv B N J Jx)
    (hN : pre.length + 1 ≤ N) (hB : B ≤ W.heap.size) (hO : ∀ k, O k → B ≤ k ∧ k < W.heap.size) (h0 : J O pre W) :
    CallsIn Fence.wide 0 Tryz.prog 63 #[.func (.yield l) #[] #[]] W (PartOut B J Jx pre Cm.tabA W) := by
  have hkey : ∀ cap A, A = (Cm.tabA.flatMap spL).toArray → CallsIn Fence.wide 0 Tryz.prog 123 #[.func (.yield l) #[] #[], .slice (some ⟨W.heap.size, 0, none⟩) Cm.tabA.length cap] (W.alloc (.cells A 76)) (PartOut B J Jx pre Cm.tabA W) := fun cap A hA => by
    subst hA
    exact (each_any l Dt Pv B N W.heap.size cap J Jx pre Cm.tabA O _ hJ hR (by decide) hN hB (by simp) (fun h => by have := (hO _ h).2; omega) (fun k hk => ⟨(hO k hk).1, by have := (hO k hk).2; simp; omega⟩) (spRow_of (World.alloc_heap_new W _))
      (hJ _ _ _ _ h0 ((Keeps.refl _ _).alloc _))).mono fun _ _ h => part_out h (by simp)
  have HK := Lib.hid hkey
  clear hkey hJ hR hN h0 hO hB
  refine callsIn_of_wp Tryz.func63 rfl trivial ?_ rfl
  simp only [Tryz.ntmps63, List.size_toArray, List.length_cons, List.length_nil, Nat.reduceAdd, Nat.reduceSub, Array.replicate_succ, Array.replicate_zero, List.push_toArray, List.append_toArray, List.nil_append, List.cons_append]
  gi_wp2_with (refine ⟨trivial, rfl, ?_⟩; refine (HK.out 1 _ (by kernel_rfl)).mono ?_; rintro e W1 ⟨hs, O', hO', (⟨rfl, hj⟩ | ⟨rfl, hj⟩)⟩)
  · have HJ := Lib.hid hj
    clear hj
    gi_wp2
    go_ret
    exact ⟨hs, O', hO', .inl ⟨rfl, HJ.out⟩⟩
  · have HJ := Lib.hid hj
    clear hj
    gi_wp2
    go_ret
    exact ⟨hs, O', hO', .inr ⟨rfl, HJ.out⟩⟩

set_option maxRecDepth 100000 in
set_option maxHeartbeats 4000000 in
theorem ofTexts_any (l : Nat) (Dt Pv : Nat → Prop) (B N : Nat) (J Jx : (Nat → Prop) → List Cm.Sp → World → Prop) (pre : List Cm.Sp) (O : Nat → Prop) (W : World) (hJ : AbidesT B Pv J) (hR : RoundOK l Dt Pv B N J Jx)
    (hN : pre.length + 16 ≤ N) (hB : B ≤ W.heap.size) (hO : ∀ k, O k → B ≤ k ∧ k < W.heap.size) (h0 : J O pre W) :
    CallsIn Fence.wide 0 Tryz.prog 64 #[.func (.yield l) #[] #[]] W (PartOut B J Jx pre Cm.tabB W) := by
  have hkey : ∀ cap A, A = (Cm.tabB.flatMap spL).toArray → CallsIn Fence.wide 0 Tryz.prog 123 #[.func (.yield l) #[] #[], .slice (some ⟨W.heap.size, 0, none⟩) Cm.tabB.length cap] (W.alloc (.cells A 76)) (PartOut B J Jx pre Cm.tabB W) := fun cap A hA => by
    subst hA
    exact (each_any l Dt Pv B N W.heap.size cap J Jx pre Cm.tabB O _ hJ hR (by decide) hN hB (by simp) (fun h => by have := (hO _ h).2; omega) (fun k hk => ⟨(hO k hk).1, by have := (hO k hk).2; simp; omega⟩) (spRow_of (World.alloc_heap_new W _))
      (hJ _ _ _ _ h0 ((Keeps.refl _ _).alloc _))).mono fun _ _ h => part_out h (by simp)
  have HK := Lib.hid hkey
  clear hkey hJ hR hN h0 hO hB
  refine callsIn_of_wp Tryz.func64 rfl trivial ?_ rfl
  simp only [Tryz.ntmps64, List.size_toArray, List.length_cons, List.length_nil, Nat.reduceAdd, Nat.reduceSub, Array.replicate_succ, Array.replicate_zero, List.push_toArray, List.append_toArray, List.nil_append, List.cons_append]
  gi_wp2_with (refine ⟨trivial, rfl, ?_⟩; refine (HK.out 16 _ (by kernel_rfl)).mono ?_; rintro e W1 ⟨hs, O', hO', (⟨rfl, hj⟩ | ⟨rfl, hj⟩)⟩)
  · have HJ := Lib.hid hj
    clear hj
    gi_wp2
    go_ret
    exact ⟨hs, O', hO', .inl ⟨rfl, HJ.out⟩⟩
  · have HJ := Lib.hid hj
    clear hj
    gi_wp2
    go_ret
    exact ⟨hs, O', hO', .inr ⟨rfl, HJ.out⟩⟩

set_option maxRecDepth 100000 in
set_option maxHeartbeats 4000000 in
theorem ofAnyItems_any (l : Nat) (Dt Pv : Nat → Prop) (B N : Nat) (J Jx : (Nat → Prop) → List Cm.Sp → World → Prop) (pre : List Cm.Sp) (O : Nat → Prop) (W : World) (hJ : AbidesT B Pv J) (hR : RoundOK l Dt Pv B N J Jx)
    (hN : pre.length + 7 ≤ N) (hB : B ≤ W.heap.size) (hO : ∀ k, O k → B ≤ k ∧ k < W.heap.size) (h0 : J O pre W) :
    CallsIn Fence.wide 0 Tryz.prog 65 #[.func (.yield l) #[] #[]] W (PartOut B J Jx pre Cm.tabC W) := by
  have hkey : ∀ cap A, A = (Cm.tabC.flatMap spL).toArray → CallsIn Fence.wide 0 Tryz.prog 123 #[.func (.yield l) #[] #[], .slice (some ⟨W.heap.size, 0, none⟩) Cm.tabC.length cap] (W.alloc (.cells A 76)) (PartOut B J Jx pre Cm.tabC W) := fun cap A hA => by
    subst hA
    exact (each_any l Dt Pv B N W.heap.size cap J Jx pre Cm.tabC O _ hJ hR (by decide) hN hB (by simp) (fun h => by have := (hO _ h).2; omega) (fun k hk => ⟨(hO k hk).1, by have := (hO k hk).2; simp; omega⟩) (spRow_of (World.alloc_heap_new W _))
      (hJ _ _ _ _ h0 ((Keeps.refl _ _).alloc _))).mono fun _ _ h => part_out h (by simp)
  have HK := Lib.hid hkey
  clear hkey hJ hR hN h0 hO hB
  refine callsIn_of_wp Tryz.func65 rfl trivial ?_ rfl
  simp only [Tryz.ntmps65, List.size_toArray, List.length_cons, List.length_nil, Nat.reduceAdd, Nat.reduceSub, Array.replicate_succ, Array.replicate_zero, List.push_toArray, List.append_toArray, List.nil_append, List.cons_append]
  gi_wp2_with (refine ⟨trivial, rfl, ?_⟩; refine (HK.out 7 _ (by kernel_rfl)).mono ?_; rintro e W1 ⟨hs, O', hO', (⟨rfl, hj⟩ | ⟨rfl, hj⟩)⟩)
  · have HJ := Lib.hid hj
    clear hj
    gi_wp2
    go_ret
    exact ⟨hs, O', hO', .inl ⟨rfl, HJ.out⟩⟩
  · have HJ := Lib.hid hj
    clear hj
    gi_wp2
    go_ret
    exact ⟨hs, O', hO', .inr ⟨rfl, HJ.out⟩⟩

set_option maxRecDepth 100000 in
set_option maxHeartbeats 4000000 in
theorem ofHashes_any (l : Nat) (Dt Pv : Nat → Prop) (B N : Nat) (J Jx : (Nat → Prop) → List Cm.Sp → World → Prop) (pre : List Cm.Sp) (O : Nat → Prop) (W : World) (hJ : AbidesT B Pv J) (hR : RoundOK l Dt Pv B N J Jx)
    (hN : pre.length + 10 ≤ N) (hB : B ≤ W.heap.size) (hO : ∀ k, O k → B ≤ k ∧ k < W.heap.size) (h0 : J O pre W) :
    CallsIn Fence.wide 0 Tryz.prog 66 #[.func (.yield l) #[] #[]] W (PartOut B J Jx pre Cm.tabD W) := by
  have hkey : ∀ cap A, A = (Cm.tabD.flatMap spL).toArray → CallsIn Fence.wide 0 Tryz.prog 123 #[.func (.yield l) #[] #[], .slice (some ⟨W.heap.size, 0, none⟩) Cm.tabD.length cap] (W.alloc (.cells A 76)) (PartOut B J Jx pre Cm.tabD W) := fun cap A hA => by
    subst hA
    exact (each_any l Dt Pv B N W.heap.size cap J Jx pre Cm.tabD O _ hJ hR (by decide) hN hB (by simp) (fun h => by have := (hO _ h).2; omega) (fun k hk => ⟨(hO k hk).1, by have := (hO k hk).2; simp; omega⟩) (spRow_of (World.alloc_heap_new W _))
      (hJ _ _ _ _ h0 ((Keeps.refl _ _).alloc _))).mono fun _ _ h => part_out h (by simp)
  have HK := Lib.hid hkey
  clear hkey hJ hR hN h0 hO hB
  refine callsIn_of_wp Tryz.func66 rfl trivial ?_ rfl
  simp only [Tryz.ntmps66, List.size_toArray, List.length_cons, List.length_nil, Nat.reduceAdd, Nat.reduceSub, Array.replicate_succ, Array.replicate_zero, List.push_toArray, List.append_toArray, List.nil_append, List.cons_append]
  gi_wp2_with (refine ⟨trivial, rfl, ?_⟩; refine (HK.out 10 _ (by kernel_rfl)).mono ?_; rintro e W1 ⟨hs, O', hO', (⟨rfl, hj⟩ | ⟨rfl, hj⟩)⟩)
  · have HJ := Lib.hid hj
    clear hj
    gi_wp2
    go_ret
    exact ⟨hs, O', hO', .inl ⟨rfl, HJ.out⟩⟩
  · have HJ := Lib.hid hj
    clear hj
    gi_wp2
    go_ret
    exact ⟨hs, O', hO', .inr ⟨rfl, HJ.out⟩⟩

set_option maxRecDepth 100000 in
set_option maxHeartbeats 4000000 in
theorem ofLists_any (l : Nat) (Dt Pv : Nat → Prop) (B N : Nat) (J Jx : (Nat → Prop) → List Cm.Sp → World → Prop) (pre : List Cm.Sp) (O : Nat → Prop) (W : World) (hJ : AbidesT B Pv J) (hR : RoundOK l Dt Pv B N J Jx)
    (hN : pre.length + 10 ≤ N) (hB : B ≤ W.heap.size) (hO : ∀ k, O k → B ≤ k ∧ k < W.heap.size) (h0 : J O pre W) :
    CallsIn Fence.wide 0 Tryz.prog 67 #[.func (.yield l) #[] #[]] W (PartOut B J Jx pre Cm.tabE W) := by
  have hkey : ∀ cap A, A = (Cm.tabE.flatMap spL).toArray → CallsIn Fence.wide 0 Tryz.prog 123 #[.func (.yield l) #[] #[], .slice (some ⟨W.heap.size, 0, none⟩) Cm.tabE.length cap] (W.alloc (.cells A 76)) (PartOut B J Jx pre Cm.tabE W) := fun cap A hA => by
    subst hA
    exact (each_any l Dt Pv B N W.heap.size cap J Jx pre Cm.tabE O _ hJ hR (by decide) hN hB (by simp) (fun h => by have := (hO _ h).2; omega) (fun k hk => ⟨(hO k hk).1, by have := (hO k hk).2; simp; omega⟩) (spRow_of (World.alloc_heap_new W _))
      (hJ _ _ _ _ h0 ((Keeps.refl _ _).alloc _))).mono fun _ _ h => part_out h (by simp)
  have HK := Lib.hid hkey
  clear hkey hJ hR hN h0 hO hB
  refine callsIn_of_wp Tryz.func67 rfl trivial ?_ rfl
  simp only [Tryz.ntmps67, List.size_toArray, List.length_cons, List.length_nil, Nat.reduceAdd, Nat.reduceSub, Array.replicate_succ, Array.replicate_zero, List.push_toArray, List.append_toArray, List.nil_append, List.cons_append]
  gi_wp2_with (refine ⟨trivial, rfl, ?_⟩; refine (HK.out 10 _ (by kernel_rfl)).mono ?_; rintro e W1 ⟨hs, O', hO', (⟨rfl, hj⟩ | ⟨rfl, hj⟩)⟩)
  · have HJ := Lib.hid hj
    clear hj
    gi_wp2
    go_ret
    exact ⟨hs, O', hO', .inl ⟨rfl, HJ.out⟩⟩
  · have HJ := Lib.hid hj
    clear hj
    gi_wp2
    go_ret
    exact ⟨hs, O', hO', .inr ⟨rfl, HJ.out⟩⟩

set_option maxRecDepth 100000 in
set_option maxHeartbeats 4000000 in
theorem ofSets_any (l : Nat) (Dt Pv : Nat → Prop) (B N : Nat) (J Jx : (Nat → Prop) → List Cm.Sp → World → Prop) (pre : List Cm.Sp) (O : Nat → Prop) (W : World) (hJ : AbidesT B Pv J) (hR : RoundOK l Dt Pv B N J Jx)
    (hN : pre.length + 10 ≤ N) (hB : B ≤ W.heap.size) (hO : ∀ k, O k → B ≤ k ∧ k < W.heap.size) (h0 : J O pre W) :
    CallsIn Fence.wide 0 Tryz.prog 68 #[.func (.yield l) #[] #[]] W (PartOut B J Jx pre Cm.tabF W) := by
  have hkey : ∀ cap A, A = (Cm.tabF.flatMap spL).toArray → CallsIn Fence.wide 0 Tryz.prog 123 #[.func (.yield l) #[] #[], .slice (some ⟨W.heap.size, 0, none⟩) Cm.tabF.length cap] (W.alloc (.cells A 76)) (PartOut B J Jx pre Cm.tabF W) := fun cap A hA => by
    subst hA
    exact (each_any l Dt Pv B N W.heap.size cap J Jx pre Cm.tabF O _ hJ hR (by decide) hN hB (by simp) (fun h => by have := (hO _ h).2; omega) (fun k hk => ⟨(hO k hk).1, by have := (hO k hk).2; simp; omega⟩) (spRow_of (World.alloc_heap_new W _))
      (hJ _ _ _ _ h0 ((Keeps.refl _ _).alloc _))).mono fun _ _ h => part_out h (by simp)
  have HK := Lib.hid hkey
  clear hkey hJ hR hN h0 hO hB
  refine callsIn_of_wp Tryz.func68 rfl trivial ?_ rfl
  simp only [Tryz.ntmps68, List.size_toArray, List.length_cons, List.length_nil, Nat.reduceAdd, Nat.reduceSub, Array.replicate_succ, Array.replicate_zero, List.push_toArray, List.append_toArray, List.nil_append, List.cons_append]
  gi_wp2_with (refine ⟨trivial, rfl, ?_⟩; refine (HK.out 10 _ (by kernel_rfl)).mono ?_; rintro e W1 ⟨hs, O', hO', (⟨rfl, hj⟩ | ⟨rfl, hj⟩)⟩)
  · have HJ := Lib.hid hj
    clear hj
    gi_wp2
    go_ret
    exact ⟨hs, O', hO', .inl ⟨rfl, HJ.out⟩⟩
  · have HJ := Lib.hid hj
    clear hj
    gi_wp2
    go_ret
    exact ⟨hs, O', hO', .inr ⟨rfl, HJ.out⟩⟩

end Go.Proofs.YtokcbcjonbjkgaaGreatDoor
