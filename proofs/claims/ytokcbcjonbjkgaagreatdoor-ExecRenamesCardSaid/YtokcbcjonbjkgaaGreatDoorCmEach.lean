/- The contract of cmd.each and of the six parts of the table. -/
import Derived.Test.YtokcbcjonbjkgaaGreatDoorCmCount
namespace Go.Proofs.YtokcbcjonbjkgaaGreatDoor
open Go.RowKit Go.Shelf
attribute [local go_sem] Oper.semAt_some

/-- a row as yield takes it. -/
def encSp (x : Cm.Sp) : Array Value := #[spV x]

/-- rows of the table side by side. -/
def SpRow (w : World) (b : Nat) (sub : List Cm.Sp) : Prop := ∀ k (h : k < sub.length), SpAt w b (k * 7) sub[k]

/-- what a round of the caller's does, and what it must keep. -/
def RoundOK (l : Nat) (Dt Pv : Nat → Prop) (B N : Nat) (J Jx : (Nat → Prop) → List Cm.Sp → World → Prop) : Prop :=
  ∀ O pre x W1, (∀ k, O k → B ≤ k ∧ k < W1.heap.size) → B ≤ W1.heap.size → J O pre W1 → pre.length < N → YieldAt Fence.wide 0 Tryz.prog l (encSp x) W1 fun e W' =>
      Keeps (RoundS Dt Pv B O) W1 W' ∧ ∃ O', Grows O O' W1 W' ∧ ((e = .returned (.bool true) ∧ J O' (pre ++ [x]) W') ∨ (e = .returned (.bool false) ∧ Jx O' (pre ++ [x]) W'))

/-- what a part of the walk leaves. -/
def PartOut (B : Nat) (J Jx : (Nat → Prop) → List Cm.Sp → World → Prop) (pre sub : List Cm.Sp) (W : World) (e : Ending) (W' : World) : Prop :=
  W.heap.size ≤ W'.heap.size ∧ ∃ O, (∀ k, O k → B ≤ k ∧ k < W'.heap.size) ∧
    ((e = .returned (.bool true) ∧ J O (pre ++ sub) W') ∨ (e = .returned (.bool false) ∧ ∃ pre', pre' <+: pre ++ sub ∧ Jx O pre' W'))

set_option maxRecDepth 100000 in
set_option maxHeartbeats 2000000 in
theorem each_any (l : Nat) (Dt Pv : Nat → Prop) (B N b cap : Nat) (J Jx : (Nat → Prop) → List Cm.Sp → World → Prop) (pre sub : List Cm.Sp) (O : Nat → Prop) (W : World) (hJ : AbidesT B Pv J) (hR : RoundOK l Dt Pv B N J Jx)
    (hsub : sub.length ≤ 100) (hN : pre.length + sub.length ≤ N) (hB : B ≤ b) (hb : b < W.heap.size) (hbO : ¬ O b) (hO : ∀ k, O k → B ≤ k ∧ k < W.heap.size) (hrow : SpRow W b sub) (h0 : J O pre W) :
    CallsIn Fence.wide 0 Tryz.prog 123 #[.func (.yield l) #[] #[], .slice (some ⟨b, 0, none⟩) sub.length cap] W (PartOut B J Jx pre sub W) := by
  have HC := Lib.hid hrow
  have HR := Lib.hid hR
  have HN := Lib.hid hN
  clear hrow hR hN
  refine callsIn_of_wp Tryz.func123 rfl trivial ?_ rfl
  simp only [Tryz.ntmps123, List.size_toArray, List.length_cons, List.length_nil, Nat.reduceAdd, Nat.reduceSub, Array.replicate_succ, Array.replicate_zero, List.push_toArray, List.append_toArray, List.nil_append, List.cons_append]
  gi_wp2
  gi_loopw [9] (fun i wr => ∃ (k : Nat) (O : Nat → Prop), k ≤ sub.length ∧ i = .int .i64 k ∧ (∀ k, O k → B ≤ k ∧ k < wr.heap.size) ∧ ¬ O b ∧ J O (pre ++ sub.take k) wr ∧ Hid (Keeps (fun j => j = b) W wr))
    (fun i _ => sub.length - (intOf i).toNat)
  case atStart => exact ⟨0, O, Nat.zero_le _, rfl, hO, hbO, by simpa using h0, Lib.hid (Keeps.refl _ _)⟩
  case round =>
    obtain ⟨k, O, hk, rfl, hO, hbO, hJs, HK⟩ := hrel
    by_cases hlt : k < sub.length
    · have hcx := (HC.out k hlt).keep (w' := wr) (fun j => HK.out.cell (p := ⟨b, j, none⟩) hb rfl)
      have HT : Hid (sub.take (k + 1) = sub.take k ++ [sub[k]]) := Lib.hid (List.take_succ_eq_append_getElem hlt)
      generalize sub[k] = x at hcx HT
      obtain ⟨nm, least, most, first, last, step, wr'⟩ := x
      obtain ⟨fn, tmps, assign, body, hy, hRd⟩ := HR.out O (pre ++ sub.take k) ⟨nm, least, most, first, last, step, wr'⟩ (wr.alloc (.cells (spL ⟨nm, least, most, first, last, step, wr'⟩).toArray 76)) (fun j hj => ⟨(hO j hj).1, by have := (hO j hj).2; simp; omega⟩) (by have := HK.out.size; simp; omega)
        (hJ _ _ _ _ hJs ((Keeps.refl _ _).alloc _)) (by have := HN.out; rw [List.length_append, List.length_take]; omega)
      have HRd := Lib.hid hRd
      clear hRd
      unfold encSp at hy
      simp only [spV, spL, SpAt] at hy hcx HRd
      obtain ⟨c0, c1, c2, c3, c4, c5, c6⟩ := hcx
      gi_wp2
      refine ⟨rfl, HRd.out.mono ?_⟩
      rintro e W3 ⟨hk3, O', hg3, hout⟩
      have hbO' : ¬ O' b := fun h => by
        rcases (hg3 b h).2 with h | h
        · exact hbO h
        · have := HK.out.size
          simp at h
          omega
      have hO' : ∀ j, O' j → B ≤ j ∧ j < W3.heap.size := fun j hj => by
        refine ⟨?_, (hg3 j hj).1⟩
        rcases (hg3 j hj).2 with h | h
        · exact (hO j h).1
        · have := HK.out.size
          simp at h
          omega
      have hK3 : Keeps (fun j => j = b) W W3 := (HK.out.trans ((Keeps.refl _ _).alloc _)).trans (hk3.mono fun j _ e => .inr (.inr ⟨by omega, e ▸ hbO⟩))
      have HK3 := Lib.hid hK3
      have HO' := Lib.hid hO'
      clear hk3 hg3 hK3 hO'
      rcases hout with ⟨rfl, hJ3⟩ | ⟨rfl, hJx3⟩
      · have HJ3 := Lib.hid hJ3
        clear hJ3
        gi_wp2
        go_roundw
        case rel => exact ⟨k + 1, O', by omega, by simp, HO'.out, hbO', by rw [HT.out, ← List.append_assoc]; exact HJ3.out, HK3⟩
        case measure => simp [intOf]; omega
      · have HJ3 := Lib.hid hJx3
        clear hJx3
        gi_wp2
        go_ret
        refine ⟨HK3.out.size, O', HO'.out, .inr ⟨rfl, _, ?_, HJ3.out⟩⟩
        rw [List.append_assoc, ← HT.out]
        exact (List.prefix_append_right_inj _).2 (List.take_prefix _ _)
    · obtain rfl : k = sub.length := by omega
      gi_wp2
      go_ret
      exact ⟨HK.out.size, O, hO, .inl ⟨rfl, by rwa [List.take_length] at hJs⟩⟩

end Go.Proofs.YtokcbcjonbjkgaaGreatDoor
