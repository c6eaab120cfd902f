/- The contract of slices.Values over spans: the closure that it hands back gives the spans one by one. -/
import Derived.Test.YtchladbjhodkoaaProg
import Derived.Test.YtchladbjhodkoaaSeq
import Derived.Test.YtchladbjhodkoaaSeqPlain
import Derived.Shelf.Abstract
import Derived.WalkKit
import Derived.OwnWalkIn
import Derived.TacticsInMore
import Derived.LoopNIn
import Derived.LoopIn
import Derived.Lib.Hide
import Derived.Outline
import Derived.WalkSpells
namespace Go.Proofs.Ytchladbjhodkoaa
open Go.RowKit Go.Shelf
attribute [local go_sem] Oper.semAt_some

/-- a span as yield takes it. -/
def encS (x : Sp.V) : Array Value := #[.agg #[.int .i64 x.1.1, .int .i64 x.1.2]]

/-- a row of cells holds these spans. -/
def CellsV (w : World) (b off : Nat) (zs : List Sp.V) : Prop :=
  ∀ k (h : k < zs.length), w.cell? ⟨b, off + k * 2, none⟩ = some (.int .i64 zs[k].1.1) ∧ w.cell? ⟨b, off + k * 2 + 1, none⟩ = some (.int .i64 zs[k].1.2)

set_option maxHeartbeats 1000000 in
theorem values_any (a : Option Addr) (len cap : Nat) (w : World) :
    CallsIn Fence.wide 0 Try.prog 60 #[.slice a len cap] w fun e w' =>
      e = .returned (.func (.func 74) #[] #[.pointer (some ⟨w.heap.size, 0, none⟩)]) ∧ w' = w.alloc (.cells #[.slice a len cap] 23) := by
  refine callsIn_of_wp Try.func60 rfl trivial ?_ rfl
  simp only [Try.ntmps60, List.size_toArray, List.length_cons, List.length_nil, Nat.reduceAdd, Nat.reduceSub, Array.replicate_succ, Array.replicate_zero, List.push_toArray, List.append_toArray, List.nil_append, List.cons_append]
  gi_wp2
  go_ret
  exact ⟨rfl, rfl⟩

set_option maxRecDepth 100000 in
set_option maxHeartbeats 2000000 in
theorem values_seq (Bs b off cap : Nat) (zs : List Sp.V) (w : World) (hreach : zs.length ≤ 1000000000) (hBs : Bs < w.heap.size) (hb : b < w.heap.size)
    (hbox : w.cell? ⟨Bs, 0, none⟩ = some (.slice (some ⟨b, off, none⟩) zs.length cap)) (hc : CellsV w b off zs) (Dt Pv : Nat → Prop) (hDb : Dt b) :
    SeqT false Try.prog 74 #[.pointer (some ⟨Bs, 0, none⟩)] encS Dt Pv (fun ys => ys = zs) (fun _ => False) zs.length w := by
  intro l J Jx W hW hJ _ hst hY h0
  have HX : Hid (∀ O s A, ¬ Jx O s A) := Lib.hid (hst rfl)
  clear hst
  have hbox' := (hW.cell (p := ⟨Bs, 0, none⟩) hBs).trans hbox
  have hbW : b < W.heap.size := Nat.lt_of_lt_of_le hb hW.size
  have HC : Hid (CellsV W b off zs) := Lib.hid fun k hk => ⟨(hW.cell (p := ⟨b, off + k * 2, none⟩) hb).trans (hc k hk).1, (hW.cell (p := ⟨b, off + k * 2 + 1, none⟩) hb).trans (hc k hk).2⟩
  clear hbox hc hBs
  refine callsIn_of_wp Try.func74 rfl trivial ?_ rfl
  simp only [Try.ntmps74, List.size_toArray, List.length_cons, List.length_nil, Nat.reduceAdd, Nat.reduceSub, Array.replicate_succ, Array.replicate_zero, List.push_toArray, List.append_toArray, List.nil_append, List.cons_append]
  gi_wp2
  gi_loopw [7] (fun i wr => ∃ (k : Nat) (O : Nat → Prop), k ≤ zs.length ∧ i = .int .i64 k ∧ (∀ k, O k → W.heap.size ≤ k ∧ k < wr.heap.size) ∧ J O (zs.take k) wr ∧ Keeps (fun j => j = b) W wr)
    (fun i _ => zs.length - (intOf i).toNat)
  case atStart => exact ⟨0, fun _ => False, Nat.zero_le _, rfl, fun _ h => h.elim, by simpa using h0, Keeps.refl _ _⟩
  case round =>
    obtain ⟨k, O, hk, rfl, hO, hJs, hK⟩ := hrel
    by_cases hlt : k < zs.length
    · have hcx := HC.out k hlt
      have c1 := (hK.cell (p := ⟨b, off + k * 2, none⟩) hbW rfl).trans hcx.1
      have c2 := (hK.cell (p := ⟨b, off + k * 2 + 1, none⟩) hbW rfl).trans hcx.2
      have HT : Hid (zs.take (k + 1) = zs.take k ++ [zs[k]]) := Lib.hid (List.take_succ_eq_append_getElem hlt)
      clear hcx
      generalize zs[k] = x at c1 c2 HT
      obtain ⟨fn, tmps, assign, body, hy, hR⟩ := hY O (zs.take k) x (wr.alloc (.cells #[.int .i64 x.1.1, .int .i64 x.1.2] 51)) (fun j hj => ⟨(hO j hj).1, by have := (hO j hj).2; simp; omega⟩) (by have := hK.size; simp; omega)
        (hJ _ _ _ _ hJs ((Keeps.refl _ _).alloc _)) (by rw [List.length_take]; omega)
      unfold encS at hy
      gi_wp2
      refine ⟨rfl, hR.mono ?_⟩
      rintro e W3 ⟨hk3, O', hg3, (⟨rfl, hJ3⟩ | ⟨rfl, hJx3⟩)⟩
      · gi_wp2
        go_roundw
        case rel =>
          refine ⟨k + 1, O', by omega, by simp, fun j hj => ?_, by rw [HT.out]; exact hJ3, (hK.trans ((Keeps.refl _ _).alloc _)).trans (hk3.mono fun j _ e => .inl (e ▸ hDb))⟩
          refine ⟨?_, (hg3 j hj).1⟩
          rcases (hg3 j hj).2 with h | h
          · exact (hO j h).1
          · have := hK.size
            simp at h
            omega
        case measure => simp [intOf]; omega
      · exact (HX.out _ _ _ hJx3).elim
    · obtain rfl : k = zs.length := by omega
      gi_wp2
      go_end0
      exact ⟨⟨_, rfl⟩, hK.size, O, hO, .inl ⟨zs, rfl, by rwa [List.take_length] at hJs⟩⟩

set_option maxRecDepth 100000 in
set_option maxHeartbeats 2000000 in
/-- .. of no spans. -/
theorem values_seq_nil (Bs : Nat) (w : World) (hBs : Bs < w.heap.size) (hbox : w.cell? ⟨Bs, 0, none⟩ = some (.slice none 0 0)) (Dt Pv : Nat → Prop) (N : Nat) :
    SeqT false Try.prog 74 #[.pointer (some ⟨Bs, 0, none⟩)] encS Dt Pv (fun ys => ys = []) (fun _ => False) N w := by
  intro l J Jx W hW hJ _ hst hY h0
  have hbox' := (hW.cell (p := ⟨Bs, 0, none⟩) hBs).trans hbox
  clear hbox hBs hY hst
  refine callsIn_of_wp Try.func74 rfl trivial ?_ rfl
  simp only [Try.ntmps74, List.size_toArray, List.length_cons, List.length_nil, Nat.reduceAdd, Nat.reduceSub, Array.replicate_succ, Array.replicate_zero, List.push_toArray, List.append_toArray, List.nil_append, List.cons_append]
  gi_wp2
  gi_loopw [7] (fun i wr => i = .int .i64 0 ∧ wr = W) (fun _ _ => 0)
  case atStart => exact ⟨rfl, rfl⟩
  case round =>
    obtain ⟨rfl, rfl⟩ := hrel
    gi_wp2
    go_end0
    exact ⟨⟨_, rfl⟩, Nat.le_refl _, fun _ => False, fun _ h => h.elim, .inl ⟨[], rfl, h0⟩⟩

end Go.Proofs.Ytchladbjhodkoaa
