/- The contract of the iterator over the table of commands. -/
import Derived.Test.YtokcbcjonbjkgaaGreatDoorCmParts
namespace Go.Proofs.YtokcbcjonbjkgaaGreatDoor
open Go.RowKit Go.Shelf
attribute [local go_sem] Oper.semAt_some

set_option maxRecDepth 100000 in
set_option maxHeartbeats 4000000 in
theorem table_seq (Dt Pv : Nat → Prop) (w : World) : SeqT true Tryz.prog 62 #[] encSp Dt Pv (fun ys => ys = Cm.tab) (fun p => p <+: Cm.tab) 54 w := by
  intro l J Jx W _ hJ _ _ hY h0
  have hR : RoundOK l Dt Pv W.heap.size 54 J Jx := hY
  have c1 := fun (W1 : World) (pre : List Cm.Sp) (O : Nat → Prop) => ofNoKey_any l Dt Pv W.heap.size 54 J Jx pre O W1 hJ hR
  have c2 := fun (W1 : World) (pre : List Cm.Sp) (O : Nat → Prop) => ofTexts_any l Dt Pv W.heap.size 54 J Jx pre O W1 hJ hR
  have c3 := fun (W1 : World) (pre : List Cm.Sp) (O : Nat → Prop) => ofAnyItems_any l Dt Pv W.heap.size 54 J Jx pre O W1 hJ hR
  have c4 := fun (W1 : World) (pre : List Cm.Sp) (O : Nat → Prop) => ofHashes_any l Dt Pv W.heap.size 54 J Jx pre O W1 hJ hR
  have c5 := fun (W1 : World) (pre : List Cm.Sp) (O : Nat → Prop) => ofLists_any l Dt Pv W.heap.size 54 J Jx pre O W1 hJ hR
  have c6 := fun (W1 : World) (pre : List Cm.Sp) (O : Nat → Prop) => ofSets_any l Dt Pv W.heap.size 54 J Jx pre O W1 hJ hR
  have H1 := Lib.hid c1
  have H2 := Lib.hid c2
  have H3 := Lib.hid c3
  have H4 := Lib.hid c4
  have H5 := Lib.hid c5
  have H6 := Lib.hid c6
  have H0 := Lib.hid h0
  clear c1 c2 c3 c4 c5 c6 hR hY h0 hJ
  refine callsIn_of_wp Tryz.func62 rfl trivial ?_ rfl
  simp only [Tryz.ntmps62, List.size_toArray, List.length_cons, List.length_nil, Nat.reduceAdd, Nat.reduceSub, Array.replicate_succ, Array.replicate_zero, List.push_toArray, List.append_toArray, List.nil_append, List.cons_append]
  gi_wp2_with (refine ⟨trivial, rfl, ?_⟩; refine (H1.out W [] (fun _ => False) (by decide) (Nat.le_refl _) (fun _ h => h.elim) H0.out).mono ?_; rintro e W1 ⟨hs1, O1, hO1, (⟨rfl, hj⟩ | ⟨rfl, hj⟩)⟩)
  rotate_left
  · have HJ1 := Lib.hid hj
    clear hj
    have hz1 : W.heap.size ≤ W1.heap.size := hs1
    gi_wp2
    refine ⟨trivial, ?_⟩
    gi_wp2
    refine ⟨trivial, ?_⟩
    gi_wp2
    refine ⟨trivial, ?_⟩
    gi_wp2
    refine ⟨trivial, ?_⟩
    gi_wp2
    refine ⟨trivial, ?_⟩
    gi_wp2
    go_end0
    obtain ⟨pre', hp, hx⟩ := HJ1.out
    exact ⟨⟨_, rfl⟩, hz1, O1, hO1, .inr ⟨pre', hp.trans ⟨Cm.tabB ++ (Cm.tabC ++ (Cm.tabD ++ (Cm.tabE ++ (Cm.tabF)))), by simp [Cm.tab]⟩, hx⟩⟩
  have hz1 : W.heap.size ≤ W1.heap.size := hs1
  have HJ1 : Hid (J O1 Cm.tabA W1) := Lib.hid hj
  clear hj
  gi_wp2_with (refine ⟨trivial, rfl, ?_⟩; refine (H2.out W1 Cm.tabA O1 (by decide) hz1 hO1 HJ1.out).mono ?_; rintro e W2 ⟨hs2, O2, hO2, (⟨rfl, hj⟩ | ⟨rfl, hj⟩)⟩)
  rotate_left
  · have HJ2 := Lib.hid hj
    clear hj
    have hz2 : W.heap.size ≤ W2.heap.size := (Nat.le_trans hz1 hs2)
    gi_wp2
    refine ⟨trivial, ?_⟩
    gi_wp2
    refine ⟨trivial, ?_⟩
    gi_wp2
    refine ⟨trivial, ?_⟩
    gi_wp2
    refine ⟨trivial, ?_⟩
    gi_wp2
    go_end0
    obtain ⟨pre', hp, hx⟩ := HJ2.out
    exact ⟨⟨_, rfl⟩, hz2, O2, hO2, .inr ⟨pre', hp.trans ⟨Cm.tabC ++ (Cm.tabD ++ (Cm.tabE ++ (Cm.tabF))), by simp [Cm.tab]⟩, hx⟩⟩
  have hz2 : W.heap.size ≤ W2.heap.size := (Nat.le_trans hz1 hs2)
  have HJ2 : Hid (J O2 (Cm.tabA ++ Cm.tabB) W2) := Lib.hid hj
  clear hj
  gi_wp2_with (refine ⟨trivial, rfl, ?_⟩; refine (H3.out W2 (Cm.tabA ++ Cm.tabB) O2 (by decide) hz2 hO2 HJ2.out).mono ?_; rintro e W3 ⟨hs3, O3, hO3, (⟨rfl, hj⟩ | ⟨rfl, hj⟩)⟩)
  rotate_left
  · have HJ3 := Lib.hid hj
    clear hj
    have hz3 : W.heap.size ≤ W3.heap.size := (Nat.le_trans hz2 hs3)
    gi_wp2
    refine ⟨trivial, ?_⟩
    gi_wp2
    refine ⟨trivial, ?_⟩
    gi_wp2
    refine ⟨trivial, ?_⟩
    gi_wp2
    go_end0
    obtain ⟨pre', hp, hx⟩ := HJ3.out
    exact ⟨⟨_, rfl⟩, hz3, O3, hO3, .inr ⟨pre', hp.trans ⟨Cm.tabD ++ (Cm.tabE ++ (Cm.tabF)), by simp [Cm.tab]⟩, hx⟩⟩
  have hz3 : W.heap.size ≤ W3.heap.size := (Nat.le_trans hz2 hs3)
  have HJ3 : Hid (J O3 ((Cm.tabA ++ Cm.tabB) ++ Cm.tabC) W3) := Lib.hid hj
  clear hj
  gi_wp2_with (refine ⟨trivial, rfl, ?_⟩; refine (H4.out W3 ((Cm.tabA ++ Cm.tabB) ++ Cm.tabC) O3 (by decide) hz3 hO3 HJ3.out).mono ?_; rintro e W4 ⟨hs4, O4, hO4, (⟨rfl, hj⟩ | ⟨rfl, hj⟩)⟩)
  rotate_left
  · have HJ4 := Lib.hid hj
    clear hj
    have hz4 : W.heap.size ≤ W4.heap.size := (Nat.le_trans hz3 hs4)
    gi_wp2
    refine ⟨trivial, ?_⟩
    gi_wp2
    refine ⟨trivial, ?_⟩
    gi_wp2
    go_end0
    obtain ⟨pre', hp, hx⟩ := HJ4.out
    exact ⟨⟨_, rfl⟩, hz4, O4, hO4, .inr ⟨pre', hp.trans ⟨Cm.tabE ++ (Cm.tabF), by simp [Cm.tab]⟩, hx⟩⟩
  have hz4 : W.heap.size ≤ W4.heap.size := (Nat.le_trans hz3 hs4)
  have HJ4 : Hid (J O4 (((Cm.tabA ++ Cm.tabB) ++ Cm.tabC) ++ Cm.tabD) W4) := Lib.hid hj
  clear hj
  gi_wp2_with (refine ⟨trivial, rfl, ?_⟩; refine (H5.out W4 (((Cm.tabA ++ Cm.tabB) ++ Cm.tabC) ++ Cm.tabD) O4 (by decide) hz4 hO4 HJ4.out).mono ?_; rintro e W5 ⟨hs5, O5, hO5, (⟨rfl, hj⟩ | ⟨rfl, hj⟩)⟩)
  rotate_left
  · have HJ5 := Lib.hid hj
    clear hj
    have hz5 : W.heap.size ≤ W5.heap.size := (Nat.le_trans hz4 hs5)
    gi_wp2
    refine ⟨trivial, ?_⟩
    gi_wp2
    go_end0
    obtain ⟨pre', hp, hx⟩ := HJ5.out
    exact ⟨⟨_, rfl⟩, hz5, O5, hO5, .inr ⟨pre', hp.trans ⟨Cm.tabF, by simp [Cm.tab]⟩, hx⟩⟩
  have hz5 : W.heap.size ≤ W5.heap.size := (Nat.le_trans hz4 hs5)
  have HJ5 : Hid (J O5 ((((Cm.tabA ++ Cm.tabB) ++ Cm.tabC) ++ Cm.tabD) ++ Cm.tabE) W5) := Lib.hid hj
  clear hj
  gi_wp2_with (refine ⟨trivial, rfl, ?_⟩; refine (H6.out W5 ((((Cm.tabA ++ Cm.tabB) ++ Cm.tabC) ++ Cm.tabD) ++ Cm.tabE) O5 (by decide) hz5 hO5 HJ5.out).mono ?_; rintro e W6 ⟨hs6, O6, hO6, (⟨rfl, hj⟩ | ⟨rfl, hj⟩)⟩)
  rotate_left
  · have HJ6 := Lib.hid hj
    clear hj
    have hz6 : W.heap.size ≤ W6.heap.size := (Nat.le_trans hz5 hs6)
    gi_wp2
    go_end0
    obtain ⟨pre', hp, hx⟩ := HJ6.out
    exact ⟨⟨_, rfl⟩, hz6, O6, hO6, .inr ⟨pre', hp.trans ⟨[], by simp [Cm.tab]⟩, hx⟩⟩
  have hz6 : W.heap.size ≤ W6.heap.size := (Nat.le_trans hz5 hs6)
  have HJ6 : Hid (J O6 (((((Cm.tabA ++ Cm.tabB) ++ Cm.tabC) ++ Cm.tabD) ++ Cm.tabE) ++ Cm.tabF) W6) := Lib.hid hj
  clear hj
  gi_wp2
  go_end0
  exact ⟨⟨_, rfl⟩, hz6, O6, hO6, .inl ⟨_, by simp [Cm.tab], HJ6.out⟩⟩

end Go.Proofs.YtokcbcjonbjkgaaGreatDoor
