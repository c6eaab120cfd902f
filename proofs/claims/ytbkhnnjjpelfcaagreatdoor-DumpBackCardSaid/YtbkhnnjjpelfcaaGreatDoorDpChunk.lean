/- The contracts of slices.Chunk over replies, by two, and of the iterator that it hands out. -/
import Derived.Test.YtbkhnnjjpelfcaaGreatDoorItMay
import Derived.Test.YtbkhnnjjpelfcaaGreatDoorSeqB
import Derived.BigQuiet
namespace Go.Proofs.YtbkhnnjjpelfcaaGreatDoor
open Go.RowKit Go.Shelf
attribute [local go_sem] Oper.semAt_some
set_option linter.unusedVariables false
set_option linter.unusedSimpArgs false

set_option maxHeartbeats 1000000 in
theorem chunk_mk (a : Option Addr) (len cap : Nat) (w : World) :
    Calls Tryz.prog 52 #[.slice a len cap, .int .i64 2] w fun e w' =>
      e = .returned (.func (.func 75) #[] #[.pointer (some ⟨w.heap.size, 0, none⟩), .pointer (some ⟨w.heap.size + 1, 0, none⟩)]) ∧ w' = (w.alloc (.cells #[.slice a len cap] 43)).alloc (.cells #[.int .i64 2] 3) := by
  go_enter Tryz.func52, Tryz.ntmps52
  go_wp2
  go_ret
  exact ⟨rfl, rfl⟩

/-- where the pairs begin. -/
def evens (q : Nat) : List Nat := (List.range (q / 2)).map (2 * ·)
theorem evens_next {q : Nat} (h : q % 2 = 0) : evens (q + 2) = evens q ++ [q] := by
  unfold evens
  rw [show (q + 2) / 2 = q / 2 + 1 by omega, List.range_succ, List.map_append, List.map_singleton, show 2 * (q / 2) = q by omega]
theorem evens_len (q : Nat) : (evens q).length = q / 2 := by simp [evens]
theorem evens_pre {q n : Nat} (h : q ≤ n) : evens q <+: evens n := by
  unfold evens
  refine List.IsPrefix.map _ ?_
  obtain ⟨m, hm⟩ := Nat.exists_eq_add_of_le (Nat.div_le_div_right (c := 2) h)
  rw [hm, List.range_add]
  exact List.prefix_append _ _
/-- a pair, as the iterator hands it on. -/
def encK (b off : Nat) (q : Nat) : Array Value := #[.slice (some ⟨b, off + q * 4, none⟩) 2 2]

set_option maxRecDepth 100000 in
set_option maxHeartbeats 4000000 in
theorem chunk_seq (Bx Bn b off len cap : Nat) (a : Option Addr) (w : World) (h1 : Boxed w Bx 43 (.slice a len cap)) (h2 : Boxed w Bn 3 (.int .i64 2)) (hn : len ≤ 1000000) (hc : len ≤ cap) (hcm : cap ≤ 9223372036854775807) (he : len % 2 = 0) (ha : len = 0 ∨ a = some ⟨b, off, none⟩)
    (Dt Pv : Nat → Prop) (hD1 : Dt Bx) (hD2 : Dt Bn) :
    SeqB (fun q => q + 2 ≤ len) true Tryz.prog 75 #[.pointer (some ⟨Bx, 0, none⟩), .pointer (some ⟨Bn, 0, none⟩)] (encK b off) Dt Pv (fun ys => ys = evens len) (fun p => p <+: evens len) (len / 2) w := by
  intro l J Jx W hW hJ _ _ hY h0
  have HB1 : Boxed W Bx 43 (.slice a len cap) := (hW.block _ h1.lt).trans h1
  have HB2 : Boxed W Bn 3 (.int .i64 2) := (hW.block _ h2.lt).trans h2
  have hl1 := HB1.lt
  have hl2 := HB2.lt
  have e1 := HB1.cell
  have e2 := HB2.cell
  have HY := Lib.hid hY
  have hWs := hW.size
  have HA := Lib.hid hJ
  have HEv := Lib.hid he
  clear h1 h2 HB1 HB2 hY hJ hW he
  refine callsIn_of_wp Tryz.func75 rfl trivial ?_ rfl
  simp only [Tryz.ntmps75, List.size_toArray, List.length_cons, List.length_nil, Nat.reduceAdd, Nat.reduceSub, Array.replicate_succ, Array.replicate_zero, List.push_toArray, List.append_toArray, List.nil_append, List.cons_append]
  gi_wp2
  gi_loopw [4] (fun i wr => ∃ (q : Nat) (O : Nat → Prop), i = .int .i64 q ∧ q ≤ len ∧ Hid (q % 2 = 0) ∧ (∀ k, O k → W.heap.size ≤ k ∧ k < wr.heap.size) ∧ J O (evens q) wr ∧ Hid (Keeps Dt W wr) ∧ W.heap.size ≤ wr.heap.size) (fun i _ => len - (intOf i).toNat)
  case atStart => exact ⟨0, fun _ => False, rfl, Nat.zero_le _, Lib.hid rfl, fun _ h => h.elim, h0, Lib.hid (Keeps.refl _ _), Nat.le_refl _⟩
  case round =>
    obtain ⟨q, O, rfl, hq, HQ2, hO, hJs, HK, hsz⟩ := hrel
    have c1 := (HK.out.cell (p := ⟨Bx, 0, none⟩) hl1 hD1).trans e1
    have c2 := (HK.out.cell (p := ⟨Bn, 0, none⟩) hl2 hD2).trans e2
    have HJs := Lib.hid hJs
    clear hJs e1 e2
    by_cases hlt : q < len
    · obtain rfl := ha.resolve_left (by omega)
      have h2q : q + 2 ≤ len := by have := HQ2.out; have := HEv.out; omega
      have hwl : (len : Int) ≤ 1000000 := by omega
      have hcI : (len : Int) ≤ (cap : Int) := by omega
      have hcmI : (cap : Int) ≤ 9223372036854775807 := by omega
      have hkI : (q : Int) < (len : Int) := by omega
      have hqc : (q : Int) ≤ (cap : Int) := by omega
      have hmin : min (2 : Int) ((len : Int) - (q : Int)) = 2 := by omega
      have hmin2 : min (2 : Int) (((len - q : Nat)) : Int) = 2 := by omega
      have ew : IntKind.i64.wrap ((q : Int) + 2) = (q : Int) + 2 := IntWalk.i64_in _ (by omega)
      have hq2c : (q : Int) + 2 ≤ (cap : Int) := by omega
      gi_wp2
      refine wpIn_wide.2 ?_
      go_quiet (fail)
      obtain ⟨wq, hwq⟩ : ∃ wq, wr.drewN nq = wq := ⟨_, rfl⟩
      have hkq : ∀ S : Nat → Prop, Keeps S wr wq := fun S => by rw [← hwq]; exact Keeps.of_below (below_drewN (Below.refl wr.heap.size wr) nq) fun _ h _ => h
      have hsq : wq.heap.size = wr.heap.size := by rw [← hwq]; rfl
      have d1 : wq.cell? ⟨Bx, 0, none⟩ = some (.slice (some ⟨b, off, none⟩) len cap) := by rw [← hwq]; exact c1
      have d2 : wq.cell? ⟨Bn, 0, none⟩ = some (.int .i64 2) := by rw [← hwq]; exact c2
      rw [hwq]
      have hJa := HA.out _ _ _ _ HJs.out (hkq _)
      obtain ⟨fn, tmps, assign, body, hy, hR⟩ := HY.out O (evens q) q wq (fun j hj => ⟨(hO j hj).1, by rw [hsq]; exact (hO j hj).2⟩) (by omega) hJa (by rw [evens_len]; have := HQ2.out; have := HEv.out; omega) h2q
      have HR := Lib.hid hR
      have HKQ := Lib.hid (hkq Dt)
      clear hR hJa hwq hkq c1 c2 ha
      unfold encK at hy
      gi_wp2
      refine ⟨rfl, HR.out.mono ?_⟩
      rintro e W3 ⟨hk3, O', hg3, hout⟩
      obtain ⟨hO', hK3⟩ := round_next hO (Nat.le_of_eq hsq.symm) hsz rfl (HK.out.trans HKQ.out) hk3 hg3
      have hK13 : Keeps Dt wq W3 := hk3.mono fun _ _ h => .inl h
      have f2 := (hK13.cell (p := ⟨Bn, 0, none⟩) (by simp; omega) hD2).trans d2
      have HK3 := Lib.hid hK3
      have HO' := Lib.hid hO'
      have hs3 := hK3.size
      have HN := Lib.hid (evens_next HQ2.out)
      clear hk3 hg3 hK3 hO' d1 d2 hy HR hK13
      rcases hout with ⟨rfl, hJ3⟩ | ⟨rfl, hJx3⟩
      · have HJ3 := Lib.hid hJ3
        clear hJ3
        gi_wp2
        go_roundw
        case rel => exact ⟨q + 2, O', by go_num, h2q, Lib.hid (by have := HQ2.out; omega), HO'.out, by rw [HN.out]; exact HJ3.out, HK3, hs3⟩
        case measure => simp [intOf]; omega
      · have HJ3 := Lib.hid hJx3
        clear hJx3
        gi_wp2
        refine bodyPost_ret (results_none rfl _ _ _) rfl ?_
        exact ⟨⟨_, rfl⟩, hs3, O', HO'.out, .inr ⟨_, by rw [← HN.out]; exact evens_pre h2q, HJ3.out⟩⟩
    · obtain rfl : q = len := by omega
      gi_wp2
      go_end0
      exact ⟨⟨_, rfl⟩, hsz, O, hO, .inl ⟨_, rfl, HJs.out⟩⟩
end Go.Proofs.YtbkhnnjjpelfcaaGreatDoor
