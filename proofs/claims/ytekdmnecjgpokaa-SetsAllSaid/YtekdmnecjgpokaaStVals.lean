/- The contracts of slices.Values and of the iterator that it hands out. -/
import Derived.Test.YtekdmnecjgpokaaStBase
namespace Go.Proofs.Ytekdmnecjgpokaa
open Go.RowKit Go.Shelf
attribute [local go_sem] Oper.semAt_some
set_option linter.unusedVariables false
set_option linter.unusedSimpArgs false

set_option maxHeartbeats 1000000 in
theorem values_any (a : Option Addr) (len cap : Nat) (w : World) :
    CallsIn Fence.wide 0 Try.prog 23 #[.slice a len cap] w fun e w' =>
      e = .returned (.func (.func 33) #[] #[.pointer (some ⟨w.heap.size, 0, none⟩)]) ∧ w' = w.alloc (.cells #[.slice a len cap] 25) := by
  refine callsIn_of_wp Try.func23 rfl trivial ?_ rfl
  simp only [Try.ntmps23, List.size_toArray, List.length_cons, List.length_nil, Nat.reduceAdd, Nat.reduceSub, Array.replicate_succ, Array.replicate_zero, List.push_toArray, List.append_toArray, List.nil_append, List.cons_append]
  gi_wp2
  go_ret
  exact ⟨rfl, rfl⟩

set_option maxRecDepth 100000 in
set_option maxHeartbeats 4000000 in
theorem values_seq (Bx : Nat) (a : Option Addr) (cap : Nat) (ws : List St.Bs) (w : World) (h1 : Boxed w Bx 25 (.slice a ws.length cap)) (h2 : Wds w a cap ws) (hn : ws.length ≤ 1000000) (hok : ∀ s ∈ ws, OkW s) (Dt Pv : Nat → Prop) (hD : ∀ b off, a = some ⟨b, off, none⟩ → 0 < ws.length → Dt b) :
    SeqB (OkW) true Try.prog 33 #[.pointer (some ⟨Bx, 0, none⟩)] encW Dt Pv (fun ys => ys = ws) (fun p => p <+: ws) ws.length w := by
  intro l J Jx W hW hJ _ _ hY h0
  have HB : Boxed W Bx 25 (.slice a ws.length cap) := (hW.block _ h1.lt).trans h1
  have HWd := Lib.hid h2
  have HBl := Lib.hid hW
  have c0 := HB.cell
  have HY := Lib.hid hY
  have hWs := hW.size
  have HA := Lib.hid hJ
  clear h1 HB hY h2 hJ hW
  refine callsIn_of_wp Try.func33 rfl trivial ?_ rfl
  simp only [Try.ntmps33, List.size_toArray, List.length_cons, List.length_nil, Nat.reduceAdd, Nat.reduceSub, Array.replicate_succ, Array.replicate_zero, List.push_toArray, List.append_toArray, List.nil_append, List.cons_append]
  gi_wp2
  gi_loopw [7] (fun i wr => ∃ (k : Nat) (O : Nat → Prop), i = .int .i64 k ∧ k ≤ ws.length ∧ (∀ k, O k → W.heap.size ≤ k ∧ k < wr.heap.size) ∧ J O (ws.take k) wr ∧ Hid (Keeps Dt W wr) ∧ W.heap.size ≤ wr.heap.size) (fun i _ => ws.length - (intOf i).toNat)
  case atStart => exact ⟨0, fun _ => False, rfl, Nat.zero_le _, fun _ h => h.elim, by simpa using h0, Lib.hid (Keeps.refl _ _), Nat.le_refl _⟩
  case round =>
    obtain ⟨k, O, rfl, hk, hO, hJs, HK, hsz⟩ := hrel
    have HJs := Lib.hid hJs
    clear hJs
    by_cases hlt : k < ws.length
    · obtain ⟨b, off, rfl, hb, hc⟩ := HWd.out.get (by omega)
      have hDb := hD b off rfl (by omega)
      have c1 := ((HK.out.cell (p := ⟨b, off + k, none⟩) (by simp; omega) hDb).trans (HBl.out.cell (p := ⟨b, off + k, none⟩) hb)).trans (hc k hlt)
      have hwl : (ws.length : Int) ≤ 1000000 := by omega
      have hkI : (k : Int) < (ws.length : Int) := by omega
      have HT : Hid (ws.take (k + 1) = ws.take k ++ [ws.getD k []]) := Lib.hid (take_succ_getD hlt)
      have hT : OkW (ws.getD k []) := hok _ (by rw [getD_eq hlt]; exact List.getElem_mem hlt)
      clear hc
      generalize ws.getD k [] = x at c1 HT hT
      obtain ⟨fn, tmps, assign, body, hy, hR⟩ := HY.out O (ws.take k) x wr (fun j hj => hO j hj) hsz HJs.out (by rw [List.length_take]; omega) hT
      have HR := Lib.hid hR
      clear hR hT
      unfold encW at hy
      gi_wp2
      refine ⟨rfl, HR.out.mono ?_⟩
      rintro e W3 ⟨hk3, O', hg3, hout⟩
      obtain ⟨hO', hK3⟩ := round_next hO (Nat.le_refl _) hsz rfl HK.out hk3 hg3
      have HK3 := Lib.hid hK3
      have HO' := Lib.hid hO'
      have hs3 := hK3.size
      clear hk3 hg3 hK3 hO' c1
      rcases hout with ⟨rfl, hJ3⟩ | ⟨rfl, hJx3⟩
      · have HJ3 := Lib.hid hJ3
        clear hJ3
        gi_wp2
        go_roundw
        case rel => exact ⟨k + 1, O', by go_num, by omega, HO'.out, by rw [HT.out]; exact HJ3.out, HK3, by omega⟩
        case measure => simp [intOf]; omega
      · have HJ3 := Lib.hid hJx3
        clear hJx3
        gi_wp2
        refine bodyPost_ret (results_none rfl _ _ _) rfl ?_
        exact ⟨⟨_, rfl⟩, by omega, O', HO'.out, .inr ⟨_, by rw [← HT.out]; exact List.take_prefix _ _, HJ3.out⟩⟩
    · obtain rfl : k = ws.length := by omega
      gi_wp2
      refine bodyPost_end (results_none rfl _ _ _) rfl ?_
      exact ⟨⟨_, rfl⟩, hsz, O, hO, .inl ⟨_, rfl, by have := HJs.out; rwa [List.take_length] at this⟩⟩

end Go.Proofs.Ytekdmnecjgpokaa
