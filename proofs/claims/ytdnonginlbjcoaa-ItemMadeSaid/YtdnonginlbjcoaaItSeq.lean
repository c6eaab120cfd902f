/- The contracts of the iterators over words, over names, over all texts of an item. -/
import Derived.Test.YtdnonginlbjcoaaItBase
namespace Go.Proofs.Ytdnonginlbjcoaa
open Go.RowKit Go.Shelf
attribute [local go_sem] Oper.semAt_some

theorem take_succ_getD {α : Type} {l : List α} {d : α} {k : Nat} (h : k < l.length) : l.take (k + 1) = l.take k ++ [l.getD k d] := by
  rw [List.take_succ_eq_append_getElem h, getD_eq h]

/-- what a round handed back. -/
theorem round_next {B : Nat} {Dt Pv O O' : Nat → Prop} {W wr A W3 : World} (hO : ∀ k, O k → W.heap.size ≤ k ∧ k < wr.heap.size) (hA : wr.heap.size ≤ A.heap.size) (hW : W.heap.size ≤ wr.heap.size) (hB : B = W.heap.size)
    (hK : Keeps Dt W A) (hk3 : Keeps (RoundS Dt Pv B O) A W3) (hg3 : Grows O O' A W3) : (∀ j, O' j → W.heap.size ≤ j ∧ j < W3.heap.size) ∧ Keeps Dt W W3 := by
  refine ⟨fun j hj => ⟨?_, (hg3 j hj).1⟩, hK.trans (hk3.mono fun j _ h => .inl h)⟩
  rcases (hg3 j hj).2 with h | h
  · exact (hO j h).1
  · omega

set_option maxRecDepth 100000 in
set_option maxHeartbeats 4000000 in
theorem values_seq (Bx : Nat) (a : Option Addr) (cap : Nat) (ws : List (List UInt8)) (w : World) (h1 : Boxed w Bx 23 (.slice a ws.length cap)) (h2 : Wds w a cap ws) (hn : ws.length ≤ 1000000) (Pv : Nat → Prop) :
    SeqT true Try.prog 39 #[.pointer (some ⟨Bx, 0, none⟩)] encW (fun k => k < w.heap.size) Pv (fun ys => ys = ws) (fun p => p <+: ws) ws.length w := by
  intro l J Jx W hW hJ _ _ hY h0
  have HB : Boxed W Bx 23 (.slice a ws.length cap) := (hW.block _ h1.lt).trans h1
  have HWd := Lib.hid h2
  have HBl := Lib.hid hW
  have c0 := HB.cell
  have HY := Lib.hid hY
  have hWs := hW.size
  clear h1 HB hY h2 hJ hW
  refine callsIn_of_wp Try.func39 rfl trivial ?_ rfl
  simp only [Try.ntmps39, List.size_toArray, List.length_cons, List.length_nil, Nat.reduceAdd, Nat.reduceSub, Array.replicate_succ, Array.replicate_zero, List.push_toArray, List.append_toArray, List.nil_append, List.cons_append]
  gi_wp2
  gi_loopw [7] (fun i wr => ∃ (k : Nat) (O : Nat → Prop), i = .int .i64 k ∧ k ≤ ws.length ∧ (∀ k, O k → W.heap.size ≤ k ∧ k < wr.heap.size) ∧ J O (ws.take k) wr ∧ Hid (Keeps (fun j => j < w.heap.size) W wr) ∧ W.heap.size ≤ wr.heap.size) (fun i _ => ws.length - (intOf i).toNat)
  case atStart => exact ⟨0, fun _ => False, rfl, Nat.zero_le _, fun _ h => h.elim, by simpa using h0, Lib.hid (Keeps.refl _ _), Nat.le_refl _⟩
  case round =>
    obtain ⟨k, O, rfl, hk, hO, hJs, HK, hsz⟩ := hrel
    have HJs := Lib.hid hJs
    clear hJs
    by_cases hlt : k < ws.length
    · obtain ⟨b, off, rfl, hb, hc⟩ := HWd.out.get (by omega)
      have c1 := ((HK.out.cell (p := ⟨b, off + k, none⟩) (by simp; omega) hb).trans (HBl.out.cell (p := ⟨b, off + k, none⟩) hb)).trans (hc k hlt)
      have hwl : (ws.length : Int) ≤ 1000000 := by omega
      have hkI : (k : Int) < (ws.length : Int) := by omega
      have HT : Hid (ws.take (k + 1) = ws.take k ++ [ws.getD k []]) := Lib.hid (take_succ_getD hlt)
      clear hc
      generalize ws.getD k [] = x at c1 HT
      obtain ⟨fn, tmps, assign, body, hy, hR⟩ := HY.out O (ws.take k) x wr hO hsz HJs.out (by rw [List.length_take]; omega)
      have HR := Lib.hid hR
      clear hR
      unfold encW at hy
      gi_wp2
      refine ⟨rfl, HR.out.mono ?_⟩
      rintro e W3 ⟨hk3, O', hg3, hout⟩
      obtain ⟨hO', hK3⟩ := round_next hO (Nat.le_refl _) hsz rfl HK.out hk3 hg3
      have HK3 := Lib.hid hK3
      have HO' := Lib.hid hO'
      have hs3 := hK3.size
      clear hk3 hg3 hK3 hO' c1
      rcases hout with ⟨rfl, hJ3⟩ | ⟨rfl, hJx3⟩
      · have HJ3 := Lib.hid hJ3
        clear hJ3
        gi_wp2
        go_roundw
        case rel => exact ⟨k + 1, O', by go_num, by omega, HO'.out, by rw [HT.out]; exact HJ3.out, HK3, hs3⟩
        case measure => simp [intOf]; omega
      · have HJ3 := Lib.hid hJx3
        clear hJx3
        gi_wp2
        refine bodyPost_ret (results_none rfl _ _ _) rfl ?_
        exact ⟨⟨_, rfl⟩, hs3, O', HO'.out, .inr ⟨_, HT.out ▸ List.take_prefix (k + 1) ws, HJ3.out⟩⟩
    · obtain rfl : k = ws.length := by omega
      gi_wp2
      go_end0
      exact ⟨⟨_, rfl⟩, hsz, O, hO, .inl ⟨ws, rfl, by have := HJs.out; rwa [List.take_length] at this⟩⟩

set_option maxRecDepth 100000 in
set_option maxHeartbeats 4000000 in
theorem names_seq (Bx : Nat) (a : Option Addr) (cap : Nat) (fs : List (List UInt8 × List UInt8)) (w : World) (h1 : Boxed w Bx 22 (.slice a fs.length cap)) (h2 : Fds w a cap fs) (hn : fs.length ≤ 1000000) (Pv : Nat → Prop) :
    SeqT true Try.prog 38 #[.pointer (some ⟨Bx, 0, none⟩)] encW (fun k => k < w.heap.size) Pv (fun ys => ys = fs.map (·.1)) (fun p => p <+: fs.map (·.1)) fs.length w := by
  intro l J Jx W hW hJ _ _ hY h0
  have HB : Boxed W Bx 22 (.slice a fs.length cap) := (hW.block _ h1.lt).trans h1
  have HWd := Lib.hid h2
  have HBl := Lib.hid hW
  have c0 := HB.cell
  have HY := Lib.hid hY
  have hWs := hW.size
  have HA := Lib.hid hJ
  clear h1 HB hY h2 hJ hW
  refine callsIn_of_wp Try.func38 rfl trivial ?_ rfl
  simp only [Try.ntmps38, List.size_toArray, List.length_cons, List.length_nil, Nat.reduceAdd, Nat.reduceSub, Array.replicate_succ, Array.replicate_zero, List.push_toArray, List.append_toArray, List.nil_append, List.cons_append]
  gi_wp2
  gi_loopw [7] (fun i wr => ∃ (k : Nat) (O : Nat → Prop), i = .int .i64 k ∧ k ≤ fs.length ∧ (∀ k, O k → W.heap.size ≤ k ∧ k < wr.heap.size) ∧ J O ((fs.take k).map (·.1)) wr ∧ Hid (Keeps (fun j => j < w.heap.size) W wr) ∧ W.heap.size ≤ wr.heap.size) (fun i _ => fs.length - (intOf i).toNat)
  case atStart => exact ⟨0, fun _ => False, rfl, Nat.zero_le _, fun _ h => h.elim, by simpa using h0, Lib.hid (Keeps.refl _ _), Nat.le_refl _⟩
  case round =>
    obtain ⟨k, O, rfl, hk, hO, hJs, HK, hsz⟩ := hrel
    have HJs := Lib.hid hJs
    clear hJs
    by_cases hlt : k < fs.length
    · obtain ⟨b, off, rfl, hb, hc⟩ := HWd.out.get (by omega)
      have c1 := ((HK.out.cell (p := ⟨b, off + k * 2, none⟩) (by simp; omega) hb).trans (HBl.out.cell (p := ⟨b, off + k * 2, none⟩) hb)).trans (hc k hlt).1
      have c2 := ((HK.out.cell (p := ⟨b, off + k * 2 + 1, none⟩) (by simp; omega) hb).trans (HBl.out.cell (p := ⟨b, off + k * 2 + 1, none⟩) hb)).trans (hc k hlt).2
      have hwl : (fs.length : Int) ≤ 1000000 := by omega
      have hkI : (k : Int) < (fs.length : Int) := by omega
      have HT : Hid ((fs.take (k + 1)).map (·.1) = (fs.take k).map (·.1) ++ [(fs.getD k ([], [])).1]) := Lib.hid (by rw [take_succ_getD (d := ([], [])) hlt]; simp)
      clear hc
      generalize (fs.getD k ([], [])).1 = x at c1 HT
      generalize (fs.getD k ([], [])).2 = y at c2
      have hJa := HA.out _ _ _ _ HJs.out ((Keeps.refl _ _).alloc (.cells #[.string ⟨x.toArray⟩, .string ⟨y.toArray⟩] 37))
      obtain ⟨fn, tmps, assign, body, hy, hR⟩ := HY.out O ((fs.take k).map (·.1)) x (wr.alloc (.cells #[.string ⟨x.toArray⟩, .string ⟨y.toArray⟩] 37)) (fun j hj => ⟨(hO j hj).1, by have := (hO j hj).2; simp; omega⟩) (by simp; omega) hJa (by rw [List.length_map, List.length_take]; omega)
      have HR := Lib.hid hR
      clear hR hJa
      unfold encW at hy
      gi_wp2
      refine ⟨rfl, HR.out.mono ?_⟩
      rintro e W3 ⟨hk3, O', hg3, hout⟩
      obtain ⟨hO', hK3⟩ := round_next hO (by simp) hsz rfl (HK.out.alloc _) hk3 hg3
      have HK3 := Lib.hid hK3
      have HO' := Lib.hid hO'
      have hs3 := hK3.size
      clear hk3 hg3 hK3 hO' c1 c2
      rcases hout with ⟨rfl, hJ3⟩ | ⟨rfl, hJx3⟩
      · have HJ3 := Lib.hid hJ3
        clear hJ3
        gi_wp2
        go_roundw
        case rel => exact ⟨k + 1, O', by go_num, by omega, HO'.out, by rw [HT.out]; exact HJ3.out, HK3, hs3⟩
        case measure => simp [intOf]; omega
      · have HJ3 := Lib.hid hJx3
        clear hJx3
        gi_wp2
        refine bodyPost_ret (results_none rfl _ _ _) rfl ?_
        exact ⟨⟨_, rfl⟩, hs3, O', HO'.out, .inr ⟨_, HT.out ▸ (List.take_prefix (k + 1) fs).map _, HJ3.out⟩⟩
    · obtain rfl : k = fs.length := by omega
      gi_wp2
      go_end0
      exact ⟨⟨_, rfl⟩, hsz, O, hO, .inl ⟨_, rfl, by have := HJs.out; rwa [List.take_length] at this⟩⟩

end Go.Proofs.Ytdnonginlbjcoaa
