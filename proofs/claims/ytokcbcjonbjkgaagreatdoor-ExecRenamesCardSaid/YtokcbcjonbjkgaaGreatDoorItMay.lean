/- Items in memory; Alive, Type, mayCount and bare, of the program and of the reference. The contracts of the iterators over words, over names, over all texts of an item. The contract of rises: whether each text that an iterator hands out is greater than the one before it. The contract of the iterator over all texts of an item. The contract of fits: whether an item is valid as far as that hangs neither on its end of life nor on how long its texts are. The contract of item.May. -/
import Derived.Test.YtokcbcjonbjkgaaGreatDoorFdw
import Derived.Test.YtokcbcjonbjkgaaGreatDoorRww
import Derived.Test.YtokcbcjonbjkgaaGreatDoorWds
import Derived.Test.YtokcbcjonbjkgaaGreatDoorItPlain
import Derived.RegionIn
import Derived.Sort.Walk0
namespace Go.Proofs.YtokcbcjonbjkgaaGreatDoor
open Go.RowKit Go.Shelf
attribute [local go_sem] Oper.semAt_some

/-- an item as a value. -/
def itv (k : Int) (s : List UInt8) (aF : Option Addr) (nF cF : Nat) (aL : Option Addr) (nL cL : Nat) (e : Int) : Value :=
  .agg #[.int .i64 k, .string ⟨s.toArray⟩, .slice aF nF cF, .slice aL nL cL, .int .i64 e]
/-- .. as cells. -/
def itc (k : Int) (s : List UInt8) (aF : Option Addr) (nF cF : Nat) (aL : Option Addr) (nL cL : Nat) (e : Int) : Obj :=
  .cells #[.int .i64 k, .string ⟨s.toArray⟩, .slice aF nF cF, .slice aL nL cL, .int .i64 e] 38

/-- a value is an item. -/
def ItIn (w : World) (v : Value) (i : It.I) : Prop :=
  ∃ aF cF aL cL, v = itv i.kind i.s aF i.f.length cF aL i.l.length cL i.exp ∧ Fds w aF cF i.f ∧ Wds w aL cL i.l ∧ i.s.length ≤ 9223372036854775807

theorem ItIn.later {w w' : World} {v : Value} {i : It.I} (h : ItIn w v i) (hb : Below w.heap.size w w') : ItIn w' v i := by
  obtain ⟨aF, cF, aL, cL, hv, hF, hL, hs⟩ := h
  exact ⟨aF, cF, aL, cL, hv, hF.later hb, hL.later hb, hs⟩

set_option maxHeartbeats 1000000 in
theorem mayCount_any (n : Nat) (w : World) : Calls Tryz.prog 208 #[.int .i64 (n : Int)] w fun e w' => e = .returned (.bool (It.countB n)) ∧ w = w' := by
  unfold It.countB
  by_cases h1 : 1 ≤ n
  · have k1 : (1 : Int) ≤ (n : Int) := by omega
    by_cases h2 : n ≤ 40
    · have k2 : (n : Int) ≤ 40 := by omega
      have hr : (decide (1 ≤ n) && decide (n ≤ 40)) = true := by simp [h1, h2]
      rw [hr]
      clear hr h1 h2
      go_enter Tryz.func208, Tryz.ntmps208
      go_wp2
      go_ret
      exact ⟨rfl, rfl⟩
    · have k2 : (40 : Int) < (n : Int) := by omega
      have hr : (decide (1 ≤ n) && decide (n ≤ 40)) = false := by simp [h2]
      rw [hr]
      clear hr h1 h2
      go_enter Tryz.func208, Tryz.ntmps208
      go_wp2
      go_ret
      exact ⟨by simp; omega, rfl⟩
  · have k1 : (n : Int) < 1 := by omega
    have hr : (decide (1 ≤ n) && decide (n ≤ 40)) = false := by simp [h1]
    rw [hr]
    clear hr h1
    go_enter Tryz.func208, Tryz.ntmps208
    go_wp2
    go_ret
    exact ⟨rfl, rfl⟩
end Go.Proofs.YtokcbcjonbjkgaaGreatDoor
namespace Go.Proofs.YtokcbcjonbjkgaaGreatDoor
open Go.RowKit Go.Shelf
attribute [local go_sem] Oper.semAt_some

/-- what a round handed back. -/
theorem round_next {B : Nat} {Dt Pv O O' : Nat → Prop} {W wr A W3 : World} (hO : ∀ k, O k → W.heap.size ≤ k ∧ k < wr.heap.size) (hA : wr.heap.size ≤ A.heap.size) (hW : W.heap.size ≤ wr.heap.size) (hB : B = W.heap.size)
    (hK : Keeps Dt W A) (hk3 : Keeps (RoundS Dt Pv B O) A W3) (hg3 : Grows O O' A W3) : (∀ j, O' j → W.heap.size ≤ j ∧ j < W3.heap.size) ∧ Keeps Dt W W3 := by
  refine ⟨fun j hj => ⟨?_, (hg3 j hj).1⟩, hK.trans (hk3.mono fun j _ h => .inl h)⟩
  rcases (hg3 j hj).2 with h | h
  · exact (hO j h).1
  · omega

set_option maxRecDepth 100000 in
set_option maxHeartbeats 4000000 in
theorem values_seq (Bx : Nat) (a : Option Addr) (cap : Nat) (ws : List (List UInt8)) (w : World) (h1 : Boxed w Bx 31 (.slice a ws.length cap)) (h2 : Wds w a cap ws) (hn : ws.length ≤ 1000000) (Pv : Nat → Prop) :
    SeqT true Tryz.prog 206 #[.pointer (some ⟨Bx, 0, none⟩)] encW (fun k => k < w.heap.size) Pv (fun ys => ys = ws) (fun p => p <+: ws) ws.length w := by
  intro l J Jx W hW hJ _ _ hY h0
  have HB : Boxed W Bx 31 (.slice a ws.length cap) := (hW.block _ h1.lt).trans h1
  have HWd := Lib.hid h2
  have HBl := Lib.hid hW
  have c0 := HB.cell
  have HY := Lib.hid hY
  have hWs := hW.size
  clear h1 HB hY h2 hJ hW
  refine callsIn_of_wp Tryz.func206 rfl trivial ?_ rfl
  simp only [Tryz.ntmps206, List.size_toArray, List.length_cons, List.length_nil, Nat.reduceAdd, Nat.reduceSub, Array.replicate_succ, Array.replicate_zero, List.push_toArray, List.append_toArray, List.nil_append, List.cons_append]
  gi_wp2
  gi_loopw [7] (fun i wr => ∃ (k : Nat) (O : Nat → Prop), i = .int .i64 k ∧ k ≤ ws.length ∧ (∀ k, O k → W.heap.size ≤ k ∧ k < wr.heap.size) ∧ J O (ws.take k) wr ∧ Hid (Keeps (fun j => j < w.heap.size) W wr) ∧ W.heap.size ≤ wr.heap.size) (fun i _ => ws.length - (intOf i).toNat)
  case atStart => exact ⟨0, fun _ => False, rfl, Nat.zero_le _, fun _ h => h.elim, by simpa using h0, Lib.hid (Keeps.refl _ _), Nat.le_refl _⟩
  case round =>
    obtain ⟨k, O, rfl, hk, hO, hJs, HK, hsz⟩ := hrel
    have HJs := Lib.hid hJs
    clear hJs
    by_cases hlt : k < ws.length
    · obtain ⟨b, off, rfl, hb, hc⟩ := HWd.out.get (by omega)
      have c1 := ((HK.out.cell (p := ⟨b, off + k, none⟩) (by simp; omega) hb).trans (HBl.out.cell (p := ⟨b, off + k, none⟩) hb)).trans (hc k hlt)
      have hwl : (ws.length : Int) ≤ 1000000 := by omega
      have hkI : (k : Int) < (ws.length : Int) := by omega
      have HT : Hid (ws.take (k + 1) = ws.take k ++ [ws.getD k []]) := Lib.hid (take_succ_getD hlt)
      clear hc
      generalize ws.getD k [] = x at c1 HT
      obtain ⟨fn, tmps, assign, body, hy, hR⟩ := HY.out O (ws.take k) x wr hO hsz HJs.out (by rw [List.length_take]; omega)
      have HR := Lib.hid hR
      clear hR
      unfold encW at hy
      gi_wp2
      refine ⟨rfl, HR.out.mono ?_⟩
      rintro e W3 ⟨hk3, O', hg3, hout⟩
      obtain ⟨hO', hK3⟩ := round_next hO (Nat.le_refl _) hsz rfl HK.out hk3 hg3
      have HK3 := Lib.hid hK3
      have HO' := Lib.hid hO'
      have hs3 := hK3.size
      clear hk3 hg3 hK3 hO' c1
      rcases hout with ⟨rfl, hJ3⟩ | ⟨rfl, hJx3⟩
      · have HJ3 := Lib.hid hJ3
        clear hJ3
        gi_wp2
        go_roundw
        case rel => exact ⟨k + 1, O', by go_num, by omega, HO'.out, by rw [HT.out]; exact HJ3.out, HK3, hs3⟩
        case measure => simp [intOf]; omega
      · have HJ3 := Lib.hid hJx3
        clear hJx3
        gi_wp2
        refine bodyPost_ret (results_none rfl _ _ _) rfl ?_
        exact ⟨⟨_, rfl⟩, hs3, O', HO'.out, .inr ⟨_, HT.out ▸ List.take_prefix (k + 1) ws, HJ3.out⟩⟩
    · obtain rfl : k = ws.length := by omega
      gi_wp2
      go_end0
      exact ⟨⟨_, rfl⟩, hsz, O, hO, .inl ⟨ws, rfl, by have := HJs.out; rwa [List.take_length] at this⟩⟩

set_option maxRecDepth 100000 in
set_option maxHeartbeats 4000000 in
theorem names_seq (Bx : Nat) (a : Option Addr) (cap : Nat) (fs : List (List UInt8 × List UInt8)) (w : World) (h1 : Boxed w Bx 36 (.slice a fs.length cap)) (h2 : Fds w a cap fs) (hn : fs.length ≤ 1000000) (Pv : Nat → Prop) :
    SeqT true Tryz.prog 223 #[.pointer (some ⟨Bx, 0, none⟩)] encW (fun k => k < w.heap.size) Pv (fun ys => ys = fs.map (·.1)) (fun p => p <+: fs.map (·.1)) fs.length w := by
  intro l J Jx W hW hJ _ _ hY h0
  have HB : Boxed W Bx 36 (.slice a fs.length cap) := (hW.block _ h1.lt).trans h1
  have HWd := Lib.hid h2
  have HBl := Lib.hid hW
  have c0 := HB.cell
  have HY := Lib.hid hY
  have hWs := hW.size
  have HA := Lib.hid hJ
  clear h1 HB hY h2 hJ hW
  refine callsIn_of_wp Tryz.func223 rfl trivial ?_ rfl
  simp only [Tryz.ntmps223, List.size_toArray, List.length_cons, List.length_nil, Nat.reduceAdd, Nat.reduceSub, Array.replicate_succ, Array.replicate_zero, List.push_toArray, List.append_toArray, List.nil_append, List.cons_append]
  gi_wp2
  gi_loopw [7] (fun i wr => ∃ (k : Nat) (O : Nat → Prop), i = .int .i64 k ∧ k ≤ fs.length ∧ (∀ k, O k → W.heap.size ≤ k ∧ k < wr.heap.size) ∧ J O ((fs.take k).map (·.1)) wr ∧ Hid (Keeps (fun j => j < w.heap.size) W wr) ∧ W.heap.size ≤ wr.heap.size) (fun i _ => fs.length - (intOf i).toNat)
  case atStart => exact ⟨0, fun _ => False, rfl, Nat.zero_le _, fun _ h => h.elim, by simpa using h0, Lib.hid (Keeps.refl _ _), Nat.le_refl _⟩
  case round =>
    obtain ⟨k, O, rfl, hk, hO, hJs, HK, hsz⟩ := hrel
    have HJs := Lib.hid hJs
    clear hJs
    by_cases hlt : k < fs.length
    · obtain ⟨b, off, rfl, hb, hc⟩ := HWd.out.get (by omega)
      have c1 := ((HK.out.cell (p := ⟨b, off + k * 2, none⟩) (by simp; omega) hb).trans (HBl.out.cell (p := ⟨b, off + k * 2, none⟩) hb)).trans (hc k hlt).1
      have c2 := ((HK.out.cell (p := ⟨b, off + k * 2 + 1, none⟩) (by simp; omega) hb).trans (HBl.out.cell (p := ⟨b, off + k * 2 + 1, none⟩) hb)).trans (hc k hlt).2
      have hwl : (fs.length : Int) ≤ 1000000 := by omega
      have hkI : (k : Int) < (fs.length : Int) := by omega
      have HT : Hid ((fs.take (k + 1)).map (·.1) = (fs.take k).map (·.1) ++ [(fs.getD k ([], [])).1]) := Lib.hid (by rw [take_succ_getD (d := ([], [])) hlt]; simp)
      clear hc
      generalize (fs.getD k ([], [])).1 = x at c1 HT
      generalize (fs.getD k ([], [])).2 = y at c2
      have hJa := HA.out _ _ _ _ HJs.out ((Keeps.refl _ _).alloc (.cells #[.string ⟨x.toArray⟩, .string ⟨y.toArray⟩] 69))
      obtain ⟨fn, tmps, assign, body, hy, hR⟩ := HY.out O ((fs.take k).map (·.1)) x (wr.alloc (.cells #[.string ⟨x.toArray⟩, .string ⟨y.toArray⟩] 69)) (fun j hj => ⟨(hO j hj).1, by have := (hO j hj).2; simp; omega⟩) (by simp; omega) hJa (by rw [List.length_map, List.length_take]; omega)
      have HR := Lib.hid hR
      clear hR hJa
      unfold encW at hy
      gi_wp2
      refine ⟨rfl, HR.out.mono ?_⟩
      rintro e W3 ⟨hk3, O', hg3, hout⟩
      obtain ⟨hO', hK3⟩ := round_next hO (by simp) hsz rfl (HK.out.alloc _) hk3 hg3
      have HK3 := Lib.hid hK3
      have HO' := Lib.hid hO'
      have hs3 := hK3.size
      clear hk3 hg3 hK3 hO' c1 c2
      rcases hout with ⟨rfl, hJ3⟩ | ⟨rfl, hJx3⟩
      · have HJ3 := Lib.hid hJ3
        clear hJ3
        gi_wp2
        go_roundw
        case rel => exact ⟨k + 1, O', by go_num, by omega, HO'.out, by rw [HT.out]; exact HJ3.out, HK3, hs3⟩
        case measure => simp [intOf]; omega
      · have HJ3 := Lib.hid hJx3
        clear hJx3
        gi_wp2
        refine bodyPost_ret (results_none rfl _ _ _) rfl ?_
        exact ⟨⟨_, rfl⟩, hs3, O', HO'.out, .inr ⟨_, HT.out ▸ (List.take_prefix (k + 1) fs).map _, HJ3.out⟩⟩
    · obtain rfl : k = fs.length := by omega
      gi_wp2
      go_end0
      exact ⟨⟨_, rfl⟩, hsz, O, hO, .inl ⟨_, rfl, by have := HJs.out; rwa [List.take_length] at this⟩⟩

end Go.Proofs.YtokcbcjonbjkgaaGreatDoor
namespace Go.Proofs.YtokcbcjonbjkgaaGreatDoor
open Go.RowKit Go.Shelf
attribute [local go_sem] Oper.semAt_some

/-- rises' own variables: the result, the last one, whether there was one. -/
def RInv (w : World) (pre : List (List UInt8)) (W : World) : Prop :=
  Boxed W w.heap.size 4 (.bool false) ∧ Boxed W (w.heap.size + 1) 9 (.string ⟨(It.lastS pre).toArray⟩) ∧ Boxed W (w.heap.size + 2) 4 (.bool (!pre.isEmpty)) ∧ Below w.heap.size w W

theorem RInv.keep {w W W' : World} {pre : List (List UInt8)} (h : RInv w pre W) {S : Nat → Prop} (hk : Keeps S W W') (hS : ∀ k, k < w.heap.size + 3 → S k) : RInv w pre W' := by
  obtain ⟨h1, h2, h3, h4⟩ := h
  exact ⟨hk.heap h1 (hS _ (by omega)), hk.heap h2 (hS _ (by omega)), hk.heap h3 (hS _ (by omega)), h4.trans (hk.below h4.size fun k hk' => hS k (by omega))⟩

set_option maxRecDepth 100000 in
set_option maxHeartbeats 4000000 in
theorem rises_any (gf : Nat) (lb : Array Value) (eg : ∀ args w, (callFunc gf args).run Tryz.prog w = .ok (.enter gf args) w) (ws : List (List UInt8)) (Dt : Nat → Prop) (N : Nat) (w0 w : World)
    (hseq : SeqT true Tryz.prog gf lb encW Dt (fun _ => False) (fun ys => ys = ws) (fun p => p <+: ws) N w0) (hw : Below w0.heap.size w0 w) (hDt : ∀ k, Dt k → k < w.heap.size) :
    CallsIn Fence.wide 0 Tryz.prog 209 #[.func (.func gf) #[] lb] w fun e W' => e = .returned (.bool (It.risB ws)) ∧ Below w.heap.size w W' := by
  refine callsIn_of_wp_marks Tryz.func209 rfl trivial ?_ rfl
  simp only [Tryz.ntmps209, List.size_toArray, List.length_cons, List.length_nil, Nat.reduceAdd, Nat.reduceSub, Array.replicate_succ, Array.replicate_zero, List.push_toArray, List.append_toArray, List.nil_append, List.cons_append]
  gi_wp2
  obtain ⟨w2, hw2⟩ : ∃ w2, ((w.alloc (.cells #[.bool false] 4)).alloc (.cells #[.string ⟨#[]⟩] 9)).alloc (.cells #[.bool false] 4) = w2 := ⟨_, rfl⟩
  have hs2 : w2.heap.size = w.heap.size + 3 := by rw [← hw2]; simp
  have hR0 : RInv w [] w2 := by
    rw [← hw2]
    have k1 := Boxed.new w 4 (.bool false)
    have k2 := Boxed.new (w.alloc (.cells #[.bool false] 4)) 9 (.string ⟨#[]⟩)
    have k3 := Boxed.new ((w.alloc (.cells #[.bool false] 4)).alloc (.cells #[.string ⟨#[]⟩] 9)) 4 (.bool false)
    rw [World.size_alloc] at k2
    rw [World.size_alloc, World.size_alloc] at k3
    exact ⟨(k1.alloc _).alloc _, k2.alloc _, k3, (((Below.refl _ w).alloc (Nat.le_refl _) _).alloc (by simp) _).alloc (by simp; omega) _⟩
  have hBw := hR0.2.2.2
  rw [hw2]
  clear hw2
  refine wpIn_rangeT (gf := gf) (lb := lb) rfl eg hseq (hw.trans (hBw.mono hw.size)) (fun k h => by have := hDt k h; omega) (fun k h => h.elim) (fun _ => rfl)
    (fun _ pre W => It.risB pre = true ∧ RInv w pre W) (fun c _ pre W => c = .ret ∧ It.risB pre = false ∧ Boxed W w.heap.size 4 (.bool false) ∧ Below w.heap.size w W) ?hI ?hIx (fun h => by cases h) ⟨rfl, hR0⟩
    (fun _ x a' _ => a' = { tmps := #[.func (.func gf) #[] lb, undef, .pointer (some ⟨w.heap.size, 0, none⟩), .pointer (some ⟨w.heap.size + 1, 0, none⟩), .pointer (some ⟨w.heap.size + 1 + 1, 0, none⟩), .string ⟨x.toArray⟩, .func (.func gf) #[] lb, .string ⟨x.toArray⟩, undef, undef, undef, undef, undef, undef, undef], defers := [] })
    (fun O x a' A C h hk => h) ?assign ?body ?done ?stop
  case hI =>
    rintro O s A C ⟨h1, h2⟩ hk
    exact ⟨h1, h2.keep hk fun k hk' => ⟨id, .inl (by omega)⟩⟩
  case hIx =>
    rintro c O s A C ⟨h0, h1, h2, h3⟩ hk
    exact ⟨h0, h1, hk.heap h2 ⟨id, .inl (by omega)⟩, h3.trans (hk.below h3.size fun k hk' => ⟨id, .inl (by omega)⟩)⟩
  case assign =>
    intro O pre x A K hO hA hi hK
    have HK := Lib.hid hK
    have HI := Lib.hid hi
    clear hK hi
    unfold encW
    gi_wp2
    exact HK.out _ _ (Keeps.refl _ _) HI.out rfl
  case body =>
    rintro O pre x a' A hO hA ⟨r, hr⟩ ⟨hp, h1, h2, h3, h4⟩ rfl hlen
    have b2 := h2.cell
    have f2 := h2.frozen
    have f3 := h3.frozen
    have HS := Lib.hid (It.risB_snoc pre x)
    have HP := Lib.hid hp
    have HR : Hid (RInv w pre A) := Lib.hid ⟨h1, h2, h3, h4⟩
    have hgo : It.risB (pre ++ [x]) = true → ∀ aa, ownPostT (RoundS Dt (fun _ => False) w2.heap.size O) O (fun _ pre W => It.risB pre = true ∧ RInv w pre W) (fun c _ pre W => c = .ret ∧ It.risB pre = false ∧ Boxed W w.heap.size 4 (.bool false) ∧ Below w.heap.size w W) (pre ++ [x]) A .normal aa
        ((A.setCell ⟨w.heap.size + 1, 0, none⟩ (.string ⟨x.toArray⟩)).setCell ⟨w.heap.size + 1 + 1, 0, none⟩ (.bool true)) := by
      intro hq aa
      obtain ⟨h1, h2, h3, h4⟩ := HR.out
      have nS : ∀ B, w.heap.size ≤ B → B < w.heap.size + 3 → ¬ RoundS Dt (fun _ => False) w2.heap.size O B := by
        rintro B hB0 hB (h | h | h)
        · have := hDt _ h; omega
        · exact h
        · omega
      have hk : Keeps (RoundS Dt (fun _ => False) w2.heap.size O) A ((A.setCell ⟨w.heap.size + 1, 0, none⟩ (.string ⟨x.toArray⟩)).setCell ⟨w.heap.size + 1 + 1, 0, none⟩ (.bool true)) :=
        ((Keeps.refl _ _).setCell (p := ⟨w.heap.size + 1, 0, none⟩) (.inr (nS _ (by simp) (by simp))) _).setCell (p := ⟨w.heap.size + 1 + 1, 0, none⟩) (.inr (nS _ (by simp; omega) (by simp))) _
      have hk2 : Keeps (fun k => k ≠ w.heap.size + 1 + 1) (A.setCell ⟨w.heap.size + 1, 0, none⟩ (.string ⟨x.toArray⟩)) ((A.setCell ⟨w.heap.size + 1, 0, none⟩ (.string ⟨x.toArray⟩)).setCell ⟨w.heap.size + 1 + 1, 0, none⟩ (.bool true)) := (Keeps.refl _ _).setCell (.inr (by simp)) _
      have hk1 : Keeps (fun k => k ≠ w.heap.size + 1) A (A.setCell ⟨w.heap.size + 1, 0, none⟩ (.string ⟨x.toArray⟩)) := (Keeps.refl _ _).setCell (.inr (by simp)) _
      refine ⟨hk, O, ⟨fun j hj => ⟨Nat.lt_of_lt_of_le (hO j hj).2 hk.size, .inl hj⟩, hq, hk2.heap (hk1.heap h1 (by omega)) (by omega), ?_, ?_, ?_⟩⟩
      · rw [It.lastS_snoc]
        exact hk2.heap (h2.set _) (by omega)
      · have he : (!(pre ++ [x]).isEmpty) = true := by simp
        rw [he]
        exact Boxed.set (.bool true) (hk1.heap h3 (by omega))
      · exact (h4.trans (hk1.below h4.size fun k hk => by omega)).trans (hk2.below (Nat.le_trans h4.size hk1.size) fun k hk => by omega)
    have HG := Lib.hid hgo
    clear hgo h1 h2 hp
    by_cases h0 : pre = []
    · have b3 : A.cell? ⟨w.heap.size + 1 + 1, 0, none⟩ = some (.bool false) := by have := h3.cell; rw [h0] at this; exact this
      have HQ : Hid (It.risB (pre ++ [x]) = true) := Lib.hid (by rw [h0]; rfl)
      clear h0 h3
      generalize It.lastS pre = y at b2
      gi_wp2
      exact HG.out HQ.out _
    · have b3 : A.cell? ⟨w.heap.size + 1 + 1, 0, none⟩ = some (.bool true) := by have := h3.cell; rw [List.isEmpty_eq_false_iff.2 h0] at this; exact this
      have HQ : Hid (It.risB (pre ++ [x]) = decide (It.lastS pre < x)) := Lib.hid (by rw [HS.out, HP.out, List.isEmpty_eq_false_iff.2 h0]; simp)
      clear h0 h3
      generalize It.lastS pre = y at b2 HQ
      by_cases hlt : y < x
      · have HQ2 : Hid (It.risB (pre ++ [x]) = true) := Lib.hid (by rw [HQ.out, decide_eq_true hlt])
        have e1 : Op.bytesLess x y = false := by rw [bytesLess_eq, decide_eq_false_iff_not]; exact List.lt_asymm hlt
        have e2 : (x == y) = false := beq_eq_false_iff_ne.2 (by rintro rfl; exact List.lt_irrefl _ hlt)
        clear hlt HQ
        gi_wp2
        exact HG.out HQ2.out _
      · have HQ2 : Hid (It.risB (pre ++ [x]) = false) := Lib.hid (by rw [HQ.out, decide_eq_false hlt])
        obtain ⟨h1, -, -, h4'⟩ := HR.out
        have b1 := h1.cell
        have f1 := h1.frozen
        have hend : ∀ aa, ownPostT (RoundS Dt (fun _ => False) w2.heap.size O) O (fun _ pre W => It.risB pre = true ∧ RInv w pre W) (fun c _ pre W => c = .ret ∧ It.risB pre = false ∧ Boxed W w.heap.size 4 (.bool false) ∧ Below w.heap.size w W) (pre ++ [x]) A .ret aa
            (A.setCell ⟨w.heap.size, 0, none⟩ (.bool false)) := by
          intro aa
          have nS : ¬ RoundS Dt (fun _ => False) w2.heap.size O w.heap.size := by
            rintro (h | h | h)
            · have := hDt _ h; omega
            · exact h
            · omega
          have hk : Keeps (RoundS Dt (fun _ => False) w2.heap.size O) A (A.setCell ⟨w.heap.size, 0, none⟩ (.bool false)) := (Keeps.refl _ _).setCell (p := ⟨w.heap.size, 0, none⟩) (.inr nS) _
          exact ⟨hk, O, ⟨fun j hj => ⟨Nat.lt_of_lt_of_le (hO j hj).2 hk.size, .inl hj⟩, rfl, HQ2.out, h1.set _, h4'.setCell (p := ⟨w.heap.size, 0, none⟩) (Nat.le_refl _) _⟩⟩
        have HE := Lib.hid hend
        clear hend h1 h4' HQ
        by_cases hxy : x = y
        · have e1 : Op.bytesLess x y = false := by rw [bytesLess_eq, decide_eq_false_iff_not, hxy]; exact List.lt_irrefl _
          have e2 : (x == y) = true := by rw [beq_iff_eq]; exact hxy
          clear hlt hxy
          gi_wp2
          exact HE.out _
        · have e1 : Op.bytesLess x y = true := by
            rw [bytesLess_eq, decide_eq_true_eq]
            rcases Std.le_iff_lt_or_eq.1 (show x ≤ y from hlt) with h | h
            · exact h
            · exact (hxy h).elim
          clear hlt hxy
          gi_wp2
          exact HE.out _
  case done =>
    rintro O D xs A hD hDs hO - rfl ⟨hp, h1, h2, h3, h4⟩ hDd
    have b1 := h1.cell
    have f1 := h1.frozen
    have hE : Below w.heap.size w (A.setCell ⟨w.heap.size, 0, none⟩ (.bool true)) := h4.setCell (p := ⟨w.heap.size, 0, none⟩) (Nat.le_refl _) _
    have hk : Keeps (fun k => k ≠ w.heap.size) A (A.setCell ⟨w.heap.size, 0, none⟩ (.bool true)) := (Keeps.refl _ _).setCell (.inr (by simp)) _
    have hd2 := hk.heap hDd (by omega)
    have hB := Boxed.set (.bool true) h1
    have HE := Lib.hid (And.intro hE (And.intro hd2 hB))
    have HP := Lib.hid hp
    clear hE hk hd2 hB hp
    gi_wp2
    obtain ⟨hE, hd2, hB⟩ := HE.out
    refine ⟨by simp, .inl ⟨_, _, rfl, run_takeDeferred hd2, ?_⟩⟩
    have hk3 : Keeps (fun k => k ≠ D) (A.setCell ⟨w.heap.size, 0, none⟩ (.bool true)) ((A.setCell ⟨w.heap.size, 0, none⟩ (.bool true)).putObj D (.deferred none)) := (Keeps.refl _ _).putObj (fun h => h rfl) _
    refine ⟨_, results_cell rfl rfl (loadVarB _ _ _ (Boxed.cell (hk3.heap hB (by omega)))), by rw [HP.out], hE.trans (hk3.below hE.size fun k hk => by omega)⟩
  case stop =>
    rintro O D c pre A hD hDs hO - hSp ⟨rfl, hp, h1, h4⟩ hDd
    have b1 := h1.cell
    have HP := Lib.hid (It.risB_prefix hSp hp)
    clear hp
    gi_wp2
    refine ⟨by simp, .inl ⟨_, _, rfl, run_takeDeferred hDd, ?_⟩⟩
    have hk3 : Keeps (fun k => k ≠ D) A (A.putObj D (.deferred none)) := (Keeps.refl _ _).putObj (fun h => h rfl) _
    refine ⟨_, results_cell rfl rfl (loadVarB _ _ _ (Boxed.cell (hk3.heap h1 (by omega)))), by rw [HP.out], h4.trans (hk3.below h4.size fun k hk => by omega)⟩
end Go.Proofs.YtokcbcjonbjkgaaGreatDoor
namespace Go.Proofs.YtokcbcjonbjkgaaGreatDoor
open Go.RowKit Go.Shelf
attribute [local go_sem] Oper.semAt_some

/-- an item's box. -/
def ItBox (w : World) (B : Nat) (k : Int) (s : List UInt8) (aF : Option Addr) (nF cF : Nat) (aL : Option Addr) (nL cL : Nat) (e : Int) : Prop :=
  w.heap[B]? = some (.cells #[.int .i64 k, .string ⟨s.toArray⟩, .slice aF nF cF, .slice aL nL cL, .int .i64 e] 38 (0, 0))

theorem ItBox.lt {w : World} {B : Nat} {k : Int} {s : List UInt8} {aF : Option Addr} {nF cF : Nat} {aL : Option Addr} {nL cL : Nat} {e : Int} (h : ItBox w B k s aF nF cF aL nL cL e) : B < w.heap.size := (Array.getElem?_eq_some_iff.1 h).1
theorem ItBox.at {w : World} {B : Nat} {k : Int} {s : List UInt8} {aF : Option Addr} {nF cF : Nat} {aL : Option Addr} {nL cL : Nat} {e : Int} (h : ItBox w B k s aF nF cF aL nL cL e) :
    w.cell? ⟨B, 0, none⟩ = some (.int .i64 k) ∧ w.cell? ⟨B, 1, none⟩ = some (.string ⟨s.toArray⟩) ∧ w.cell? ⟨B, 2, none⟩ = some (.slice aF nF cF) ∧ w.cell? ⟨B, 3, none⟩ = some (.slice aL nL cL) ∧ w.cell? ⟨B, 4, none⟩ = some (.int .i64 e) := by
  unfold ItBox at h
  simp [World.cell?, h]
theorem ItBox.new (w : World) (k : Int) (s : List UInt8) (aF : Option Addr) (nF cF : Nat) (aL : Option Addr) (nL cL : Nat) (e : Int) : ItBox (w.alloc (itc k s aF nF cF aL nL cL e)) w.heap.size k s aF nF cF aL nL cL e := World.alloc_heap_new w _
theorem ItBox.later {w w' : World} {B : Nat} {k : Int} {s : List UInt8} {aF : Option Addr} {nF cF : Nat} {aL : Option Addr} {nL cL : Nat} {e : Int} (h : ItBox w B k s aF nF cF aL nL cL e) (hb : Below w.heap.size w w') : ItBox w' B k s aF nF cF aL nL cL e := (hb.block _ h.lt).trans h

namespace It
theorem fieldsS_len (f : List (List UInt8 × List UInt8)) : (fieldsS f).length = 2 * f.length := by
  induction f with
  | nil => rfl
  | cons x f ih => simp only [fieldsS, List.flatMap_cons, List.length_append, List.length_cons, List.length_nil] at ih ⊢; omega
theorem fieldsS_take (f : List (List UInt8 × List UInt8)) {k : Nat} (h : k < f.length) : fieldsS (f.take (k + 1)) = fieldsS (f.take k) ++ [(f.getD k ([], [])).1] ++ [(f.getD k ([], [])).2] := by
  rw [take_succ_getD (d := ([], [])) h]
  simp [fieldsS]
theorem fieldsS_pre (f : List (List UInt8 × List UInt8)) (k : Nat) : fieldsS (f.take k) <+: fieldsS f := by
  conv => rhs; rw [← List.take_append_drop k f]
  simp only [fieldsS, List.flatMap_append]
  exact List.prefix_append _ _
end It

set_option maxRecDepth 100000 in
set_option maxHeartbeats 4000000 in
theorem texts_seq (Bx : Nat) (kind : Int) (s : List UInt8) (aF : Option Addr) (cF : Nat) (fs : List (List UInt8 × List UInt8)) (aL : Option Addr) (cL : Nat) (ws : List (List UInt8)) (ex : Int) (w : World) (h1 : ItBox w Bx kind s aF fs.length cF aL ws.length cL ex)
    (h2 : Fds w aF cF fs) (h3 : Wds w aL cL ws) (hn : fs.length ≤ 1000000) (hm : ws.length ≤ 1000000) (Dt Pv : Nat → Prop) (hD1 : Dt Bx) (hD2 : ∀ b off, aF = some ⟨b, off, none⟩ → 0 < fs.length → Dt b) (hD3 : ∀ b off, aL = some ⟨b, off, none⟩ → 0 < ws.length → Dt b) :
    SeqT true Tryz.prog 211 #[.pointer (some ⟨Bx, 0, none⟩)] encW Dt Pv (fun ys => ys = s :: (It.fieldsS fs ++ ws)) (fun p => p <+: s :: (It.fieldsS fs ++ ws)) (1 + 2 * fs.length + ws.length) w := by
  intro l J Jx W hW hJ _ _ hY h0
  have hlt := h1.lt
  have HFd := Lib.hid h2
  have HWd := Lib.hid h3
  have HBl := Lib.hid hW
  obtain ⟨-, c1, c2, c3, -⟩ := (h1.later hW).at
  have HY := Lib.hid hY
  have hWs := hW.size
  have HA := Lib.hid hJ
  have HFL := Lib.hid (It.fieldsS_len fs)
  obtain ⟨fn0, tmps0, assign0, body0, hy0, hR0⟩ := HY.out (fun _ => False) [] s W (fun _ h => h.elim) (Nat.le_refl _) h0 (by simp; omega)
  have HR0 := Lib.hid hR0
  unfold encW at hy0
  clear h1 hY h2 h3 hJ hW hR0 h0
  refine callsIn_of_wp Tryz.func211 rfl trivial ?_ rfl
  simp only [Tryz.ntmps211, List.size_toArray, List.length_cons, List.length_nil, Nat.reduceAdd, Nat.reduceSub, Array.replicate_succ, Array.replicate_zero, List.push_toArray, List.append_toArray, List.nil_append, List.cons_append]
  gi_wp2
  refine ⟨rfl, HR0.out.mono ?_⟩
  rintro e W1 ⟨hk1, O1, hg1, hout⟩
  obtain ⟨hO1, hK1⟩ := round_next (O := fun _ => False) (wr := W) (fun _ h => h.elim) (Nat.le_refl _) (Nat.le_refl _) rfl (Keeps.refl _ _) hk1 hg1
  have HK1 := Lib.hid hK1
  have HO1 := Lib.hid hO1
  have hs1 := hK1.size
  have d2 := (hK1.cell (p := ⟨Bx, 2, none⟩) (by simp; omega) hD1).trans c2
  have d3 := (hK1.cell (p := ⟨Bx, 3, none⟩) (by simp; omega) hD1).trans c3
  clear hk1 hg1 hK1 hO1 c1 c2 hy0 HR0
  rcases hout with ⟨rfl, hj⟩ | ⟨rfl, hj⟩
  rotate_left
  · have HJ1 := Lib.hid hj
    clear hj
    gi_wp2
    refine bodyPost_ret (results_none rfl _ _ _) rfl ?_
    exact ⟨⟨_, rfl⟩, hs1, O1, HO1.out, .inr ⟨_, ⟨_, rfl⟩, HJ1.out⟩⟩
  have HJ1 := Lib.hid hj
  clear hj
  gi_wp2
  gi_loopw [15] (fun i wr => ∃ (k : Nat) (O : Nat → Prop), i = .int .i64 k ∧ k ≤ fs.length ∧ (∀ k, O k → W.heap.size ≤ k ∧ k < wr.heap.size) ∧ J O (s :: It.fieldsS (fs.take k)) wr ∧ Hid (Keeps Dt W wr) ∧ W.heap.size ≤ wr.heap.size) (fun i _ => fs.length - (intOf i).toNat)
  case atStart => exact ⟨0, O1, rfl, Nat.zero_le _, HO1.out, by simpa [It.fieldsS] using HJ1.out, HK1, hs1⟩
  case round =>
    obtain ⟨k, O, rfl, hk, hO, hJs, HK, hsz⟩ := hrel
    have HJs := Lib.hid hJs
    clear hJs HJ1 HK1 HO1 d2 d3
    by_cases hlt2 : k < fs.length
    · obtain ⟨b, off, rfl, hb, hc⟩ := HFd.out.get (by omega)
      have hDb := hD2 b off rfl (by omega)
      have c1 := ((HK.out.cell (p := ⟨b, off + k * 2, none⟩) (by simp; omega) hDb).trans (HBl.out.cell (p := ⟨b, off + k * 2, none⟩) hb)).trans (hc k hlt2).1
      have c2 := ((HK.out.cell (p := ⟨b, off + k * 2 + 1, none⟩) (by simp; omega) hDb).trans (HBl.out.cell (p := ⟨b, off + k * 2 + 1, none⟩) hb)).trans (hc k hlt2).2
      have hwl : (fs.length : Int) ≤ 1000000 := by omega
      have hkI : (k : Int) < (fs.length : Int) := by omega
      have HT := Lib.hid (It.fieldsS_take fs hlt2)
      have hlen : (It.fieldsS (fs.take k)).length = 2 * k := by rw [It.fieldsS_len, List.length_take]; omega
      have HLen := Lib.hid hlen
      clear hc hlen
      generalize (fs.getD k ([], [])).1 = x at c1 HT
      generalize (fs.getD k ([], [])).2 = y at c2 HT
      have hJa := HA.out _ _ _ _ HJs.out ((Keeps.refl _ _).alloc (.cells #[.string ⟨x.toArray⟩, .string ⟨y.toArray⟩] 69))
      obtain ⟨fn, tmps, assign, body, hy, hR⟩ := HY.out O (s :: It.fieldsS (fs.take k)) x (wr.alloc (.cells #[.string ⟨x.toArray⟩, .string ⟨y.toArray⟩] 69)) (fun j hj => ⟨(hO j hj).1, by have := (hO j hj).2; simp; omega⟩) (by simp; omega) hJa (by rw [List.length_cons, HLen.out]; omega)
      have HR := Lib.hid hR
      clear hR hJa
      unfold encW at hy
      have hBx : Hid (∀ O, (∀ k, O k → W.heap.size ≤ k ∧ k < wr.heap.size) → RoundS Dt Pv W.heap.size O wr.heap.size) := Lib.hid fun O h => .inr (.inr ⟨hsz, fun hh => by have := (h _ hh).2; omega⟩)
      gi_wp2
      refine ⟨rfl, HR.out.mono ?_⟩
      rintro e W3 ⟨hk3, O', hg3, hout⟩
      obtain ⟨hO', hK3⟩ := round_next hO (by simp) hsz rfl (HK.out.alloc _) hk3 hg3
      have hcell : W3.cell? ⟨wr.heap.size, 1, none⟩ = some (.string ⟨y.toArray⟩) := (hk3.cell (p := ⟨wr.heap.size, 1, none⟩) (by simp) (hBx.out O hO)).trans (by simp [go_sem])
      have HK3 := Lib.hid hK3
      have HO' := Lib.hid hO'
      have hs3 := hK3.size
      clear hk3 hg3 hK3 hO' c1 c2 hy HR
      rcases hout with ⟨rfl, hJ3⟩ | ⟨rfl, hJx3⟩
      · have HJ3 := Lib.hid hJ3
        obtain ⟨fn, tmps, assign, body, hy, hR⟩ := HY.out O' (s :: It.fieldsS (fs.take k) ++ [x]) y W3 HO'.out hs3 hJ3 (by rw [List.length_append, List.length_cons, HLen.out]; simp; omega)
        have HR := Lib.hid hR
        clear hR hJ3
        unfold encW at hy
        gi_wp2
        refine ⟨rfl, HR.out.mono ?_⟩
        rintro e W4 ⟨hk4, O4, hg4, hout⟩
        obtain ⟨hO4, hK4⟩ := round_next HO'.out (Nat.le_refl _) hs3 rfl HK3.out hk4 hg4
        have HK4 := Lib.hid hK4
        have HO4 := Lib.hid hO4
        have hs4 := hK4.size
        clear hk4 hg4 hK4 hO4 hy HR
        rcases hout with ⟨rfl, hJ4⟩ | ⟨rfl, hJx4⟩
        · have HJ4 := Lib.hid hJ4
          clear hJ4
          gi_wp2
          go_roundw
          case rel => exact ⟨k + 1, O4, by go_num, by omega, HO4.out, by rw [HT.out]; exact HJ4.out, HK4, hs4⟩
          case measure => simp [intOf]; omega
        · have HJ4 := Lib.hid hJx4
          clear hJx4
          gi_wp2
          refine bodyPost_ret (results_none rfl _ _ _) rfl ?_
          refine ⟨⟨_, rfl⟩, hs4, O4, HO4.out, .inr ⟨_, ?_, HJ4.out⟩⟩
          have := (It.fieldsS_pre fs (k + 1)).trans (List.prefix_append _ ws)
          rw [HT.out] at this
          exact List.cons_prefix_cons.2 ⟨rfl, this⟩
      · have HJ3 := Lib.hid hJx3
        clear hJx3
        gi_wp2
        refine ⟨fun _ h => (by cases h), ?_⟩
        gi_wp2
        refine bodyPost_ret (results_none rfl _ _ _) rfl ?_
        refine ⟨⟨_, rfl⟩, hs3, O', HO'.out, .inr ⟨_, ?_, HJ3.out⟩⟩
        have := (It.fieldsS_pre fs (k + 1)).trans (List.prefix_append _ ws)
        rw [HT.out] at this
        exact List.cons_prefix_cons.2 ⟨rfl, (List.prefix_append _ _).trans this⟩
    · obtain rfl : k = fs.length := by omega
      have d3 := (HK.out.cell (p := ⟨Bx, 3, none⟩) (by simp; omega) hD1).trans c3
      have HJ1 : Hid (J O (s :: It.fieldsS fs) wr) := Lib.hid (by have := HJs.out; rwa [List.take_length] at this)
      clear HJs
      gi_wp2
      gi_loopw [35] (fun i wr => ∃ (k : Nat) (O : Nat → Prop), i = .int .i64 k ∧ k ≤ ws.length ∧ (∀ k, O k → W.heap.size ≤ k ∧ k < wr.heap.size) ∧ J O (s :: (It.fieldsS fs ++ ws.take k)) wr ∧ Hid (Keeps Dt W wr) ∧ W.heap.size ≤ wr.heap.size) (fun i _ => ws.length - (intOf i).toNat)
      case atStart => exact ⟨0, O, rfl, Nat.zero_le _, hO, by simpa using HJ1.out, HK, hsz⟩
      case round =>
        clear HJ1 d3 hO HK hsz
        obtain ⟨k, O, rfl, hk, hO, hJs, HK, hsz⟩ := hrel
        have HJs := Lib.hid hJs
        clear hJs
        by_cases hlt : k < ws.length
        · obtain ⟨b, off, rfl, hb, hc⟩ := HWd.out.get (by omega)
          have hDb := hD3 b off rfl (by omega)
          have c1 := ((HK.out.cell (p := ⟨b, off + k, none⟩) (by simp; omega) hDb).trans (HBl.out.cell (p := ⟨b, off + k, none⟩) hb)).trans (hc k hlt)
          have hwl : (ws.length : Int) ≤ 1000000 := by omega
          have hkI : (k : Int) < (ws.length : Int) := by omega
          have HT : Hid (ws.take (k + 1) = ws.take k ++ [ws.getD k []]) := Lib.hid (take_succ_getD hlt)
          clear hc
          generalize ws.getD k [] = x at c1 HT
          obtain ⟨fn, tmps, assign, body, hy, hR⟩ := HY.out O (s :: (It.fieldsS fs ++ ws.take k)) x wr hO hsz HJs.out (by rw [List.length_cons, List.length_append, List.length_take, HFL.out]; omega)
          have HR := Lib.hid hR
          clear hR
          unfold encW at hy
          gi_wp2
          refine ⟨rfl, HR.out.mono ?_⟩
          rintro e W3 ⟨hk3, O', hg3, hout⟩
          obtain ⟨hO', hK3⟩ := round_next hO (Nat.le_refl _) hsz rfl HK.out hk3 hg3
          have HK3 := Lib.hid hK3
          have HO' := Lib.hid hO'
          have hs3 := hK3.size
          clear hk3 hg3 hK3 hO' c1
          rcases hout with ⟨rfl, hJ3⟩ | ⟨rfl, hJx3⟩
          · have HJ3 := Lib.hid hJ3
            clear hJ3
            gi_wp2
            go_roundw
            case rel => exact ⟨k + 1, O', by go_num, by omega, HO'.out, by rw [HT.out, ← List.append_assoc]; exact HJ3.out, HK3, hs3⟩
            case measure => simp [intOf]; omega
          · have HJ3 := Lib.hid hJx3
            clear hJx3
            gi_wp2
            refine bodyPost_ret (results_none rfl _ _ _) rfl ?_
            refine ⟨⟨_, rfl⟩, hs3, O', HO'.out, .inr ⟨_, ?_, HJ3.out⟩⟩
            show s :: (It.fieldsS fs ++ ws.take k) ++ [x] <+: _
            rw [List.cons_append, List.append_assoc, ← HT.out]
            exact List.cons_prefix_cons.2 ⟨rfl, (List.prefix_append_right_inj _).2 (List.take_prefix _ _)⟩
        · obtain rfl : k = ws.length := by omega
          gi_wp2
          go_end0
          exact ⟨⟨_, rfl⟩, hsz, O, hO, .inl ⟨_, rfl, by have := HJs.out; rwa [List.take_length] at this⟩⟩

end Go.Proofs.YtokcbcjonbjkgaaGreatDoor
namespace Go.Proofs.YtokcbcjonbjkgaaGreatDoor
open Go.RowKit Go.Shelf
attribute [local go_sem] Oper.semAt_some

theorem names_mk (a : Option Addr) (n c : Nat) (w : World) : Calls Tryz.prog 210 #[.slice a n c] w fun e w' =>
    e = .returned (.func (.func 223) #[] #[.pointer (some ⟨w.heap.size, 0, none⟩)]) ∧ w' = w.alloc (.cells #[.slice a n c] 36) := by
  go_enter Tryz.func210, Tryz.ntmps210
  go_wp2
  go_ret
  exact ⟨rfl, rfl⟩
theorem values_mk (a : Option Addr) (n c : Nat) (w : World) : Calls Tryz.prog 183 #[.slice a n c] w fun e w' =>
    e = .returned (.func (.func 206) #[] #[.pointer (some ⟨w.heap.size, 0, none⟩)]) ∧ w' = w.alloc (.cells #[.slice a n c] 31) := by
  go_enter Tryz.func183, Tryz.ntmps183
  go_wp2
  go_ret
  exact ⟨rfl, rfl⟩

theorem rises_names (Bx : Nat) (a : Option Addr) (cap : Nat) (fs : List (List UInt8 × List UInt8)) (w : World) (h1 : Boxed w Bx 36 (.slice a fs.length cap)) (h2 : Fds w a cap fs) (hn : fs.length ≤ 1000000) :
    Calls Tryz.prog 209 #[.func (.func 223) #[] #[.pointer (some ⟨Bx, 0, none⟩)]] w fun e W' => e = .returned (.bool (It.risB (fs.map (·.1)))) ∧ Below w.heap.size w W' :=
  callsIn_wide.1 (rises_any _ _ (enters_of Tryz.func223 (by kernel_rfl) rfl) _ _ _ w w (names_seq Bx a cap fs w h1 h2 hn _) (Below.refl _ _) (fun _ h => h))
theorem rises_values (Bx : Nat) (a : Option Addr) (cap : Nat) (ws : List (List UInt8)) (w : World) (h1 : Boxed w Bx 31 (.slice a ws.length cap)) (h2 : Wds w a cap ws) (hn : ws.length ≤ 1000000) :
    Calls Tryz.prog 209 #[.func (.func 206) #[] #[.pointer (some ⟨Bx, 0, none⟩)]] w fun e W' => e = .returned (.bool (It.risB ws)) ∧ Below w.heap.size w W' :=
  callsIn_wide.1 (rises_any _ _ (enters_of Tryz.func206 (by kernel_rfl) rfl) _ _ _ w w (values_seq Bx a cap ws w h1 h2 hn _) (Below.refl _ _) (fun _ h => h))

set_option maxRecDepth 100000 in
set_option maxHeartbeats 1000000 in
theorem fits_1 (x : Int) (s : List UInt8) (aF : Option Addr) (cF : Nat) (aL : Option Addr) (cL : Nat) (w : World) :
    Calls Tryz.prog 187 #[itv 1 s aF 0 cF aL 0 cL x] w fun e w' => e = .returned (.bool true) ∧ Below w.heap.size w w' := by
  unfold itv
  go_enter Tryz.func187, Tryz.ntmps187
  go_wp2
  go_ret
  exact ⟨rfl, (Below.refl _ _).alloc (Nat.le_refl _) _⟩

set_option maxRecDepth 100000 in
set_option maxHeartbeats 1000000 in
theorem fits_2 (x : Int) (s : List UInt8) (aF : Option Addr) (cF : Nat) (aL : Option Addr) (nL cL : Nat) (w : World) (hnL : nL ≠ 0) :
    Calls Tryz.prog 187 #[itv 1 s aF 0 cF aL nL cL x] w fun e w' => e = .returned (.bool false) ∧ Below w.heap.size w w' := by
  unfold itv
  have e_nL : ((nL : Int) == 0) = false := by rw [beq_eq_false_iff_ne]; omega
  clear hnL
  go_enter Tryz.func187, Tryz.ntmps187
  go_wp2
  go_ret
  exact ⟨rfl, (Below.refl _ _).alloc (Nat.le_refl _) _⟩

set_option maxRecDepth 100000 in
set_option maxHeartbeats 1000000 in
theorem fits_3 (x : Int) (s : List UInt8) (aF : Option Addr) (nF cF : Nat) (aL : Option Addr) (nL cL : Nat) (w : World) (hnF : nF ≠ 0) :
    Calls Tryz.prog 187 #[itv 1 s aF nF cF aL nL cL x] w fun e w' => e = .returned (.bool false) ∧ Below w.heap.size w w' := by
  unfold itv
  have e_nF : ((nF : Int) == 0) = false := by rw [beq_eq_false_iff_ne]; omega
  clear hnF
  go_enter Tryz.func187, Tryz.ntmps187
  go_wp2
  go_ret
  exact ⟨rfl, (Below.refl _ _).alloc (Nat.le_refl _) _⟩

set_option maxRecDepth 100000 in
set_option maxHeartbeats 1000000 in
theorem fits_4 (x : Int) (s : List UInt8) (aF : Option Addr) (nF cF : Nat) (aL : Option Addr) (nL cL : Nat) (w : World) (hs : ¬ s = []) :
    Calls Tryz.prog 187 #[itv 2 s aF nF cF aL nL cL x] w fun e w' => e = .returned (.bool false) ∧ Below w.heap.size w w' := by
  unfold itv
  go_enter Tryz.func187, Tryz.ntmps187
  go_wp2
  go_ret
  exact ⟨rfl, (Below.refl _ _).alloc (Nat.le_refl _) _⟩

set_option maxRecDepth 100000 in
set_option maxHeartbeats 1000000 in
theorem fits_5 (x : Int) (s : List UInt8) (aF : Option Addr) (nF cF : Nat) (aL : Option Addr) (nL cL : Nat) (w : World) (hs : ¬ s = []) :
    Calls Tryz.prog 187 #[itv 3 s aF nF cF aL nL cL x] w fun e w' => e = .returned (.bool false) ∧ Below w.heap.size w w' := by
  unfold itv
  go_enter Tryz.func187, Tryz.ntmps187
  go_wp2
  go_ret
  exact ⟨rfl, (Below.refl _ _).alloc (Nat.le_refl _) _⟩

set_option maxRecDepth 100000 in
set_option maxHeartbeats 1000000 in
theorem fits_6 (x : Int) (s : List UInt8) (aF : Option Addr) (nF cF : Nat) (aL : Option Addr) (nL cL : Nat) (w : World) (hs : ¬ s = []) :
    Calls Tryz.prog 187 #[itv 4 s aF nF cF aL nL cL x] w fun e w' => e = .returned (.bool false) ∧ Below w.heap.size w w' := by
  unfold itv
  go_enter Tryz.func187, Tryz.ntmps187
  go_wp2
  go_ret
  exact ⟨rfl, (Below.refl _ _).alloc (Nat.le_refl _) _⟩

set_option maxRecDepth 100000 in
set_option maxHeartbeats 1000000 in
theorem fits_7 (k x : Int) (s : List UInt8) (aF : Option Addr) (nF cF : Nat) (aL : Option Addr) (nL cL : Nat) (w : World) (h1 : ¬ k = 1) (h2 : ¬ k = 2) (h3 : ¬ k = 3) (h4 : ¬ k = 4) :
    Calls Tryz.prog 187 #[itv k s aF nF cF aL nL cL x] w fun e w' => e = .returned (.bool false) ∧ Below w.heap.size w w' := by
  unfold itv
  go_enter Tryz.func187, Tryz.ntmps187
  go_wp2
  go_ret
  exact ⟨rfl, (Below.refl _ _).alloc (Nat.le_refl _) _⟩

set_option maxRecDepth 100000 in
set_option maxHeartbeats 1000000 in
theorem fits_8 (x : Int) (aF : Option Addr) (nF cF : Nat) (aL : Option Addr) (nL cL : Nat) (w : World) (hct : It.countB nF = false) :
    Calls Tryz.prog 187 #[itv 2 [] aF nF cF aL nL cL x] w fun e w' => e = .returned (.bool false) ∧ Below w.heap.size w w' := by
  unfold itv
  have hc := fun W => mayCount_any nF W
  rw [hct] at hc
  have HC := Lib.hid hc
  clear hc hct
  go_enter Tryz.func187, Tryz.ntmps187
  go_wp2_with (go_at_call 208; refine (HC.out _).mono ?_; rintro e w1 ⟨rfl, rfl⟩)
  go_ret
  exact ⟨rfl, (Below.refl _ _).alloc (Nat.le_refl _) _⟩

set_option maxRecDepth 100000 in
set_option maxHeartbeats 1000000 in
theorem fits_9 (x : Int) (aF : Option Addr) (cF : Nat) (fs : List (List UInt8 × List UInt8)) (aL : Option Addr) (nL cL : Nat) (w : World) (hF : Fds w aF cF fs) (hlen : fs.length ≤ 1000000) (hct : It.countB fs.length = true) (hrs : It.risB (fs.map (·.1)) = false) :
    Calls Tryz.prog 187 #[itv 2 [] aF fs.length cF aL nL cL x] w fun e w' => e = .returned (.bool false) ∧ Below w.heap.size w w' := by
  unfold itv
  have hc := fun W => mayCount_any fs.length W
  rw [hct] at hc
  have HC := Lib.hid hc
  clear hc hct
  have hn1 : Boxed ((w.alloc (itc 2 [] aF fs.length cF aL nL cL x)).alloc (.cells #[.slice aF fs.length cF] 36)) (w.heap.size + 1) 36 (.slice aF fs.length cF) := by
    have := Boxed.new (w.alloc (itc 2 [] aF fs.length cF aL nL cL x)) 36 (.slice aF fs.length cF)
    rwa [World.size_alloc] at this
  have hn2 := rises_names (w.heap.size + 1) aF cF fs _ hn1 (hF.later (((Below.refl _ w).alloc (Nat.le_refl _) (itc 2 [] aF fs.length cF aL nL cL x)).alloc (by simp) (.cells #[.slice aF fs.length cF] 36))) hlen
  rw [hrs] at hn2
  unfold itc at hn2
  have HN := Lib.hid hn2
  clear hn1 hn2 hrs hF
  have hf0 : fs.length ≤ 1000000 := hlen
  clear hlen
  generalize fs.length = nF at *
  go_enter Tryz.func187, Tryz.ntmps187
  go_wp2_with fail
  refine (HC.out _).mono ?_
  rintro e w1 ⟨rfl, rfl⟩
  go_wp2_with fail
  refine (names_mk _ _ _ _).mono ?_
  rintro e w1 ⟨rfl, rfl⟩
  go_wp2_with fail
  refine HN.out.mono ?_
  rintro e w1 ⟨rfl, hb⟩
  have HB := Lib.hid hb
  obtain ⟨hcl, -⟩ := bcell hb
  have hsz := hb.size
  clear hb
  simp only [World.size_alloc] at hcl hsz
  go_wp2
  go_ret
  exact ⟨rfl, ((((Below.refl _ w).alloc (Nat.le_refl _) _).alloc (by simp) _).trans (HB.out.mono (by simp; omega)))⟩

set_option maxRecDepth 100000 in
set_option maxHeartbeats 1000000 in
theorem fits_10 (x : Int) (aF : Option Addr) (cF : Nat) (fs : List (List UInt8 × List UInt8)) (aL : Option Addr) (nL cL : Nat) (w : World) (hF : Fds w aF cF fs) (hlen : fs.length ≤ 1000000) (hct : It.countB fs.length = true) (hrs : It.risB (fs.map (·.1)) = true) (hnL : nL ≠ 0) :
    Calls Tryz.prog 187 #[itv 2 [] aF fs.length cF aL nL cL x] w fun e w' => e = .returned (.bool false) ∧ Below w.heap.size w w' := by
  unfold itv
  have hc := fun W => mayCount_any fs.length W
  rw [hct] at hc
  have HC := Lib.hid hc
  clear hc hct
  have hn1 : Boxed ((w.alloc (itc 2 [] aF fs.length cF aL nL cL x)).alloc (.cells #[.slice aF fs.length cF] 36)) (w.heap.size + 1) 36 (.slice aF fs.length cF) := by
    have := Boxed.new (w.alloc (itc 2 [] aF fs.length cF aL nL cL x)) 36 (.slice aF fs.length cF)
    rwa [World.size_alloc] at this
  have hn2 := rises_names (w.heap.size + 1) aF cF fs _ hn1 (hF.later (((Below.refl _ w).alloc (Nat.le_refl _) (itc 2 [] aF fs.length cF aL nL cL x)).alloc (by simp) (.cells #[.slice aF fs.length cF] 36))) hlen
  rw [hrs] at hn2
  unfold itc at hn2
  have HN := Lib.hid hn2
  clear hn1 hn2 hrs hF
  have hf0 : fs.length ≤ 1000000 := hlen
  clear hlen
  generalize fs.length = nF at *
  have e_nL : ((nL : Int) == 0) = false := by rw [beq_eq_false_iff_ne]; omega
  clear hnL
  go_enter Tryz.func187, Tryz.ntmps187
  go_wp2_with fail
  refine (HC.out _).mono ?_
  rintro e w1 ⟨rfl, rfl⟩
  go_wp2_with fail
  refine (names_mk _ _ _ _).mono ?_
  rintro e w1 ⟨rfl, rfl⟩
  go_wp2_with fail
  refine HN.out.mono ?_
  rintro e w1 ⟨rfl, hb⟩
  have HB := Lib.hid hb
  obtain ⟨hcl, -⟩ := bcell hb
  have hsz := hb.size
  clear hb
  simp only [World.size_alloc] at hcl hsz
  go_wp2
  go_ret
  exact ⟨rfl, ((((Below.refl _ w).alloc (Nat.le_refl _) _).alloc (by simp) _).trans (HB.out.mono (by simp; omega)))⟩

set_option maxRecDepth 100000 in
set_option maxHeartbeats 1000000 in
theorem fits_11 (x : Int) (aF : Option Addr) (cF : Nat) (fs : List (List UInt8 × List UInt8)) (aL : Option Addr) (cL : Nat) (w : World) (hF : Fds w aF cF fs) (hlen : fs.length ≤ 1000000) (hct : It.countB fs.length = true) (hrs : It.risB (fs.map (·.1)) = true) :
    Calls Tryz.prog 187 #[itv 2 [] aF fs.length cF aL 0 cL x] w fun e w' => e = .returned (.bool true) ∧ Below w.heap.size w w' := by
  unfold itv
  have hc := fun W => mayCount_any fs.length W
  rw [hct] at hc
  have HC := Lib.hid hc
  clear hc hct
  have hn1 : Boxed ((w.alloc (itc 2 [] aF fs.length cF aL 0 cL x)).alloc (.cells #[.slice aF fs.length cF] 36)) (w.heap.size + 1) 36 (.slice aF fs.length cF) := by
    have := Boxed.new (w.alloc (itc 2 [] aF fs.length cF aL 0 cL x)) 36 (.slice aF fs.length cF)
    rwa [World.size_alloc] at this
  have hn2 := rises_names (w.heap.size + 1) aF cF fs _ hn1 (hF.later (((Below.refl _ w).alloc (Nat.le_refl _) (itc 2 [] aF fs.length cF aL 0 cL x)).alloc (by simp) (.cells #[.slice aF fs.length cF] 36))) hlen
  rw [hrs] at hn2
  unfold itc at hn2
  have HN := Lib.hid hn2
  clear hn1 hn2 hrs hF
  have hf0 : fs.length ≤ 1000000 := hlen
  clear hlen
  generalize fs.length = nF at *
  go_enter Tryz.func187, Tryz.ntmps187
  go_wp2_with fail
  refine (HC.out _).mono ?_
  rintro e w1 ⟨rfl, rfl⟩
  go_wp2_with fail
  refine (names_mk _ _ _ _).mono ?_
  rintro e w1 ⟨rfl, rfl⟩
  go_wp2_with fail
  refine HN.out.mono ?_
  rintro e w1 ⟨rfl, hb⟩
  have HB := Lib.hid hb
  obtain ⟨hcl, -⟩ := bcell hb
  have hsz := hb.size
  clear hb
  simp only [World.size_alloc] at hcl hsz
  go_wp2
  go_ret
  exact ⟨rfl, ((((Below.refl _ w).alloc (Nat.le_refl _) _).alloc (by simp) _).trans (HB.out.mono (by simp; omega)))⟩

set_option maxRecDepth 100000 in
set_option maxHeartbeats 1000000 in
theorem fits_12 (x : Int) (aF : Option Addr) (nF cF : Nat) (aL : Option Addr) (nL cL : Nat) (w : World) (hnF : nF ≠ 0) :
    Calls Tryz.prog 187 #[itv 3 [] aF nF cF aL nL cL x] w fun e w' => e = .returned (.bool false) ∧ Below w.heap.size w w' := by
  unfold itv
  have e_nF : ((nF : Int) == 0) = false := by rw [beq_eq_false_iff_ne]; omega
  clear hnF
  go_enter Tryz.func187, Tryz.ntmps187
  go_wp2
  go_ret
  exact ⟨rfl, (Below.refl _ _).alloc (Nat.le_refl _) _⟩

set_option maxRecDepth 100000 in
set_option maxHeartbeats 1000000 in
theorem fits_13 (x : Int) (aF : Option Addr) (nF cF : Nat) (aL : Option Addr) (nL cL : Nat) (w : World) (hnF : nF ≠ 0) :
    Calls Tryz.prog 187 #[itv 4 [] aF nF cF aL nL cL x] w fun e w' => e = .returned (.bool false) ∧ Below w.heap.size w w' := by
  unfold itv
  have e_nF : ((nF : Int) == 0) = false := by rw [beq_eq_false_iff_ne]; omega
  clear hnF
  go_enter Tryz.func187, Tryz.ntmps187
  go_wp2
  go_ret
  exact ⟨rfl, (Below.refl _ _).alloc (Nat.le_refl _) _⟩

set_option maxRecDepth 100000 in
set_option maxHeartbeats 1000000 in
theorem fits_14 (x : Int) (aF : Option Addr) (cF : Nat) (aL : Option Addr) (nL cL : Nat) (w : World) (hct : It.countB nL = false) :
    Calls Tryz.prog 187 #[itv 3 [] aF 0 cF aL nL cL x] w fun e w' => e = .returned (.bool false) ∧ Below w.heap.size w w' := by
  unfold itv
  have hc := fun W => mayCount_any nL W
  rw [hct] at hc
  have HC := Lib.hid hc
  clear hc hct
  go_enter Tryz.func187, Tryz.ntmps187
  go_wp2_with (go_at_call 208; refine (HC.out _).mono ?_; rintro e w1 ⟨rfl, rfl⟩)
  go_ret
  exact ⟨rfl, (Below.refl _ _).alloc (Nat.le_refl _) _⟩

set_option maxRecDepth 100000 in
set_option maxHeartbeats 1000000 in
theorem fits_15 (x : Int) (aF : Option Addr) (cF : Nat) (aL : Option Addr) (nL cL : Nat) (w : World) (hct : It.countB nL = true) :
    Calls Tryz.prog 187 #[itv 3 [] aF 0 cF aL nL cL x] w fun e w' => e = .returned (.bool true) ∧ Below w.heap.size w w' := by
  unfold itv
  have hc := fun W => mayCount_any nL W
  rw [hct] at hc
  have HC := Lib.hid hc
  clear hc hct
  go_enter Tryz.func187, Tryz.ntmps187
  go_wp2_with (go_at_call 208; refine (HC.out _).mono ?_; rintro e w1 ⟨rfl, rfl⟩)
  go_ret
  exact ⟨rfl, (Below.refl _ _).alloc (Nat.le_refl _) _⟩

set_option maxRecDepth 100000 in
set_option maxHeartbeats 1000000 in
theorem fits_16 (x : Int) (aF : Option Addr) (cF : Nat) (aL : Option Addr) (nL cL : Nat) (w : World) (hct : It.countB nL = false) :
    Calls Tryz.prog 187 #[itv 4 [] aF 0 cF aL nL cL x] w fun e w' => e = .returned (.bool false) ∧ Below w.heap.size w w' := by
  unfold itv
  have hc := fun W => mayCount_any nL W
  rw [hct] at hc
  have HC := Lib.hid hc
  clear hc hct
  go_enter Tryz.func187, Tryz.ntmps187
  go_wp2_with (go_at_call 208; refine (HC.out _).mono ?_; rintro e w1 ⟨rfl, rfl⟩)
  go_ret
  exact ⟨rfl, (Below.refl _ _).alloc (Nat.le_refl _) _⟩

set_option maxRecDepth 100000 in
set_option maxHeartbeats 1000000 in
theorem fits_17 (x : Int) (aF : Option Addr) (cF : Nat) (aL : Option Addr) (cL : Nat) (ws : List (List UInt8)) (w : World) (hL : Wds w aL cL ws) (hlen : ws.length ≤ 1000000) (hct : It.countB ws.length = true) (hrs : It.risB ws = false) :
    Calls Tryz.prog 187 #[itv 4 [] aF 0 cF aL ws.length cL x] w fun e w' => e = .returned (.bool false) ∧ Below w.heap.size w w' := by
  unfold itv
  have hc := fun W => mayCount_any ws.length W
  rw [hct] at hc
  have HC := Lib.hid hc
  clear hc hct
  have hn1 : Boxed ((w.alloc (itc 4 [] aF 0 cF aL ws.length cL x)).alloc (.cells #[.slice aL ws.length cL] 31)) (w.heap.size + 1) 31 (.slice aL ws.length cL) := by
    have := Boxed.new (w.alloc (itc 4 [] aF 0 cF aL ws.length cL x)) 31 (.slice aL ws.length cL)
    rwa [World.size_alloc] at this
  have hn2 := rises_values (w.heap.size + 1) aL cL ws _ hn1 (hL.later (((Below.refl _ w).alloc (Nat.le_refl _) (itc 4 [] aF 0 cF aL ws.length cL x)).alloc (by simp) (.cells #[.slice aL ws.length cL] 31))) hlen
  rw [hrs] at hn2
  unfold itc at hn2
  have HN := Lib.hid hn2
  clear hn1 hn2 hrs hL
  have hf0 : ws.length ≤ 1000000 := hlen
  clear hlen
  generalize ws.length = nL at *
  go_enter Tryz.func187, Tryz.ntmps187
  go_wp2_with fail
  refine (HC.out _).mono ?_
  rintro e w1 ⟨rfl, rfl⟩
  go_wp2_with fail
  refine (values_mk _ _ _ _).mono ?_
  rintro e w1 ⟨rfl, rfl⟩
  go_wp2_with fail
  refine HN.out.mono ?_
  rintro e w1 ⟨rfl, hb⟩
  have HB := Lib.hid hb
  obtain ⟨hcl, -⟩ := bcell hb
  have hsz := hb.size
  clear hb
  simp only [World.size_alloc] at hcl hsz
  go_wp2
  go_ret
  exact ⟨rfl, ((((Below.refl _ w).alloc (Nat.le_refl _) _).alloc (by simp) _).trans (HB.out.mono (by simp; omega)))⟩

set_option maxRecDepth 100000 in
set_option maxHeartbeats 1000000 in
theorem fits_18 (x : Int) (aF : Option Addr) (cF : Nat) (aL : Option Addr) (cL : Nat) (ws : List (List UInt8)) (w : World) (hL : Wds w aL cL ws) (hlen : ws.length ≤ 1000000) (hct : It.countB ws.length = true) (hrs : It.risB ws = true) :
    Calls Tryz.prog 187 #[itv 4 [] aF 0 cF aL ws.length cL x] w fun e w' => e = .returned (.bool true) ∧ Below w.heap.size w w' := by
  unfold itv
  have hc := fun W => mayCount_any ws.length W
  rw [hct] at hc
  have HC := Lib.hid hc
  clear hc hct
  have hn1 : Boxed ((w.alloc (itc 4 [] aF 0 cF aL ws.length cL x)).alloc (.cells #[.slice aL ws.length cL] 31)) (w.heap.size + 1) 31 (.slice aL ws.length cL) := by
    have := Boxed.new (w.alloc (itc 4 [] aF 0 cF aL ws.length cL x)) 31 (.slice aL ws.length cL)
    rwa [World.size_alloc] at this
  have hn2 := rises_values (w.heap.size + 1) aL cL ws _ hn1 (hL.later (((Below.refl _ w).alloc (Nat.le_refl _) (itc 4 [] aF 0 cF aL ws.length cL x)).alloc (by simp) (.cells #[.slice aL ws.length cL] 31))) hlen
  rw [hrs] at hn2
  unfold itc at hn2
  have HN := Lib.hid hn2
  clear hn1 hn2 hrs hL
  have hf0 : ws.length ≤ 1000000 := hlen
  clear hlen
  generalize ws.length = nL at *
  go_enter Tryz.func187, Tryz.ntmps187
  go_wp2_with fail
  refine (HC.out _).mono ?_
  rintro e w1 ⟨rfl, rfl⟩
  go_wp2_with fail
  refine (values_mk _ _ _ _).mono ?_
  rintro e w1 ⟨rfl, rfl⟩
  go_wp2_with fail
  refine HN.out.mono ?_
  rintro e w1 ⟨rfl, hb⟩
  have HB := Lib.hid hb
  obtain ⟨hcl, -⟩ := bcell hb
  have hsz := hb.size
  clear hb
  simp only [World.size_alloc] at hcl hsz
  go_wp2
  go_ret
  exact ⟨rfl, ((((Below.refl _ w).alloc (Nat.le_refl _) _).alloc (by simp) _).trans (HB.out.mono (by simp; omega)))⟩

theorem fits_any (k x : Int) (s : List UInt8) (aF : Option Addr) (cF : Nat) (fs : List (List UInt8 × List UInt8)) (aL : Option Addr) (cL : Nat) (ws : List (List UInt8)) (w : World) (hF : Fds w aF cF fs) (hL : Wds w aL cL ws) (hlF : fs.length ≤ 1000000) (hlL : ws.length ≤ 1000000) :
    Calls Tryz.prog 187 #[itv k s aF fs.length cF aL ws.length cL x] w fun e w' => e = .returned (.bool (It.fitsB ⟨k, s, fs, ws, x⟩)) ∧ Below w.heap.size w w' := by
  by_cases h1 : k = 1
  · subst h1
    by_cases hf : fs.length = 0
    · by_cases hl : ws.length = 0
      · rw [show It.fitsB ⟨1, s, fs, ws, x⟩ = true by simp [It.fitsB, hf, hl], hf, hl]
        exact fits_1 x s aF cF aL cL w
      · rw [show It.fitsB ⟨1, s, fs, ws, x⟩ = false by simp [It.fitsB, hf, hl], hf]
        exact fits_2 x s aF cF aL _ cL w hl
    · rw [show It.fitsB ⟨1, s, fs, ws, x⟩ = false by simp [It.fitsB, hf]]
      exact fits_3 x s aF _ cF aL _ cL w hf
  by_cases h2 : k = 2
  · subst h2
    by_cases hs : s = []
    · subst hs
      cases hct : It.countB fs.length with
      | false =>
        rw [show It.fitsB ⟨2, [], fs, ws, x⟩ = false by simp [It.fitsB, hct]]
        exact fits_8 x aF _ cF aL _ cL w hct
      | true =>
        cases hrs : It.risB (fs.map (·.1)) with
        | false =>
          rw [show It.fitsB ⟨2, [], fs, ws, x⟩ = false by simp [It.fitsB, It.names, hrs]]
          exact fits_9 x aF cF fs aL _ cL w hF hlF hct hrs
        | true =>
          by_cases hl : ws.length = 0
          · rw [show It.fitsB ⟨2, [], fs, ws, x⟩ = true by simp [It.fitsB, It.names, hrs, hct, hl], hl]
            exact fits_11 x aF cF fs aL cL w hF hlF hct hrs
          · rw [show It.fitsB ⟨2, [], fs, ws, x⟩ = false by simp [It.fitsB, hl]]
            exact fits_10 x aF cF fs aL _ cL w hF hlF hct hrs hl
    · rw [show It.fitsB ⟨2, s, fs, ws, x⟩ = false by simp [It.fitsB, hs]]
      exact fits_4 x s aF _ cF aL _ cL w hs
  by_cases h3 : k = 3
  · subst h3
    by_cases hs : s = []
    · subst hs
      by_cases hf : fs.length = 0
      · rw [hf]
        cases hct : It.countB ws.length with
        | false =>
          rw [show It.fitsB ⟨3, [], fs, ws, x⟩ = false by simp [It.fitsB, hct]]
          exact fits_14 x aF cF aL _ cL w hct
        | true =>
          rw [show It.fitsB ⟨3, [], fs, ws, x⟩ = true by simp [It.fitsB, hct, hf]]
          exact fits_15 x aF cF aL _ cL w hct
      · rw [show It.fitsB ⟨3, [], fs, ws, x⟩ = false by simp [It.fitsB, hf]]
        exact fits_12 x aF _ cF aL _ cL w hf
    · rw [show It.fitsB ⟨3, s, fs, ws, x⟩ = false by simp [It.fitsB, hs]]
      exact fits_5 x s aF _ cF aL _ cL w hs
  by_cases h4 : k = 4
  · subst h4
    by_cases hs : s = []
    · subst hs
      by_cases hf : fs.length = 0
      · rw [hf]
        cases hct : It.countB ws.length with
        | false =>
          rw [show It.fitsB ⟨4, [], fs, ws, x⟩ = false by simp [It.fitsB, hct]]
          exact fits_16 x aF cF aL _ cL w hct
        | true =>
          cases hrs : It.risB ws with
          | false =>
            rw [show It.fitsB ⟨4, [], fs, ws, x⟩ = false by simp [It.fitsB, hrs]]
            exact fits_17 x aF cF aL cL ws w hL hlL hct hrs
          | true =>
            rw [show It.fitsB ⟨4, [], fs, ws, x⟩ = true by simp [It.fitsB, hrs, hct, hf]]
            exact fits_18 x aF cF aL cL ws w hL hlL hct hrs
      · rw [show It.fitsB ⟨4, [], fs, ws, x⟩ = false by simp [It.fitsB, hf]]
        exact fits_13 x aF _ cF aL _ cL w hf
    · rw [show It.fitsB ⟨4, s, fs, ws, x⟩ = false by simp [It.fitsB, hs]]
      exact fits_6 x s aF _ cF aL _ cL w hs
  · rw [show It.fitsB ⟨k, s, fs, ws, x⟩ = false by simp [It.fitsB, h1, h2, h3, h4]]
    exact fits_7 k x s aF _ cF aL _ cL w h1 h2 h3 h4

end Go.Proofs.YtokcbcjonbjkgaaGreatDoor
namespace Go.Proofs.YtokcbcjonbjkgaaGreatDoor
open Go.RowKit Go.Shelf
attribute [local go_sem] Oper.semAt_some

theorem texts_mk (k : Int) (s : List UInt8) (aF : Option Addr) (nF cF : Nat) (aL : Option Addr) (nL cL : Nat) (x : Int) (w : World) : Calls Tryz.prog 188 #[itv k s aF nF cF aL nL cL x] w fun e w' =>
    e = .returned (.func (.func 211) #[] #[.pointer (some ⟨w.heap.size, 0, none⟩)]) ∧ w' = w.alloc (itc k s aF nF cF aL nL cL x) := by
  unfold itv
  go_enter Tryz.func188, Tryz.ntmps188
  go_wp2
  go_ret
  exact ⟨rfl, rfl⟩

/-- May's result. -/
def MRes (w : World) (W : World) : Prop := Boxed W (w.heap.size + 1) 4 (.bool false) ∧ Below w.heap.size w W

theorem MRes.keep {w W W' : World} (h : MRes w W) {S : Nat → Prop} (hk : Keeps S W W') (hS : ∀ k, k < w.heap.size + 2 → S k) : MRes w W' :=
  ⟨hk.heap h.1 (hS _ (by omega)), h.2.trans (hk.below h.2.size fun k hk' => hS k (by omega))⟩
theorem MRes.new (w : World) (o : Obj) : MRes w ((w.alloc o).alloc (.cells #[.bool false] 4)) := by
  have k1 := Boxed.new (w.alloc o) 4 (.bool false)
  rw [World.size_alloc] at k1
  exact ⟨k1, ((Below.refl _ w).alloc (Nat.le_refl _) _).alloc (by simp) _⟩
theorem MRes.set {w W : World} (h : MRes w W) (b : Bool) : Boxed (W.setCell ⟨w.heap.size + 1, 0, none⟩ (.bool b)) (w.heap.size + 1) 4 (.bool b) ∧ Below w.heap.size w (W.setCell ⟨w.heap.size + 1, 0, none⟩ (.bool b)) :=
  ⟨Boxed.set _ h.1, h.2.setCell (p := ⟨w.heap.size + 1, 0, none⟩) (by simp) _⟩

set_option maxRecDepth 100000 in
set_option maxHeartbeats 4000000 in
theorem may_exp (k x : Int) (s : List UInt8) (aF : Option Addr) (nF cF : Nat) (aL : Option Addr) (nL cL : Nat) (w : World) (h : x < 0 ∨ 9007199254740992 < x) :
    CallsIn Fence.wide 0 Tryz.prog 161 #[itv k s aF nF cF aL nL cL x] w fun e W' => e = .returned (.bool false) ∧ Below w.heap.size w W' := by
  have HM := Lib.hid (MRes.new w (itc k s aF nF cF aL nL cL x))
  unfold itc at HM
  unfold itv
  refine callsIn_of_wp_marks Tryz.func161 rfl trivial ?_ rfl
  simp only [Tryz.ntmps161, List.size_toArray, List.length_cons, List.length_nil, Nat.reduceAdd, Nat.reduceSub, Array.replicate_succ, Array.replicate_zero, List.push_toArray, List.append_toArray, List.nil_append, List.cons_append]
  rcases h with h | h
  · gi_wp2
    refine ⟨trivial, ?_⟩
    gi_wp2
    exact ⟨_, results_cell rfl rfl (loadVarB _ _ _ (Boxed.cell HM.out.1)), rfl, HM.out.2⟩
  · have h0 : (0 : Int) ≤ x := by omega
    gi_wp2
    refine ⟨trivial, ?_⟩
    gi_wp2
    exact ⟨_, results_cell rfl rfl (loadVarB _ _ _ (Boxed.cell HM.out.1)), rfl, HM.out.2⟩

set_option maxRecDepth 100000 in
set_option maxHeartbeats 4000000 in
theorem may_fits (k x : Int) (s : List UInt8) (aF : Option Addr) (cF : Nat) (fs : List (List UInt8 × List UInt8)) (aL : Option Addr) (cL : Nat) (ws : List (List UInt8)) (w : World) (hF : Fds w aF cF fs) (hL : Wds w aL cL ws) (hlF : fs.length ≤ 1000000) (hlL : ws.length ≤ 1000000)
    (h0 : 0 ≤ x) (h1 : x ≤ 9007199254740992) (hf : It.fitsB ⟨k, s, fs, ws, x⟩ = false) :
    CallsIn Fence.wide 0 Tryz.prog 161 #[itv k s aF fs.length cF aL ws.length cL x] w fun e W' => e = .returned (.bool false) ∧ Below w.heap.size w W' := by
  have hM := MRes.new w (itc k s aF fs.length cF aL ws.length cL x)
  have hfi := (callsIn_wide (n := 0)).2 (fits_any k x s aF cF fs aL cL ws _ (hF.later hM.2) (hL.later hM.2) hlF hlL)
  rw [hf] at hfi
  unfold itc at hM hfi
  unfold itv at hfi
  have HFi := Lib.hid hfi
  have HM := Lib.hid hM
  unfold itv
  clear hf hfi hM hF hL
  generalize fs.length = nF at *
  generalize ws.length = nL at *
  refine callsIn_of_wp_marks Tryz.func161 rfl trivial ?_ rfl
  simp only [Tryz.ntmps161, List.size_toArray, List.length_cons, List.length_nil, Nat.reduceAdd, Nat.reduceSub, Array.replicate_succ, Array.replicate_zero, List.push_toArray, List.append_toArray, List.nil_append, List.cons_append]
  gi_wp2
  refine ⟨trivial, rfl, HFi.out.mono ?_⟩
  rintro e w1 ⟨rfl, hb⟩
  have hM1 : MRes w w1 := HM.out.keep (Keeps.of_below (S := fun _ => True) hb (fun k h _ => by simpa using h)) (fun _ _ => trivial)
  have HS := Lib.hid (hM1.set false)
  have b1 := hM1.1.cell
  have f1 := hM1.1.frozen
  clear hb hM1
  gi_wp2
  exact ⟨_, results_cell rfl rfl (loadVarB _ _ _ (Boxed.cell HS.out.1)), rfl, HS.out.2⟩

set_option maxRecDepth 100000 in
set_option maxHeartbeats 4000000 in
theorem may_texts (k x : Int) (s : List UInt8) (aF : Option Addr) (cF : Nat) (fs : List (List UInt8 × List UInt8)) (aL : Option Addr) (cL : Nat) (ws : List (List UInt8)) (w : World) (hF : Fds w aF cF fs) (hL : Wds w aL cL ws) (hlF : fs.length ≤ 1000000) (hlL : ws.length ≤ 1000000)
    (h0 : 0 ≤ x) (h1 : x ≤ 9007199254740992) (hf : It.fitsB ⟨k, s, fs, ws, x⟩ = true) :
    CallsIn Fence.wide 0 Tryz.prog 161 #[itv k s aF fs.length cF aL ws.length cL x] w fun e W' => e = .returned (.bool ((s :: (It.fieldsS fs ++ ws)).all fun t => decide (t.length ≤ 300))) ∧ Below w.heap.size w W' := by
  have hM := MRes.new w (itc k s aF fs.length cF aL ws.length cL x)
  have hfi := (callsIn_wide (n := 0)).2 (fits_any k x s aF cF fs aL cL ws _ (hF.later hM.2) (hL.later hM.2) hlF hlL)
  rw [hf] at hfi
  have hbox : ItBox ((w.alloc (itc k s aF fs.length cF aL ws.length cL x)).alloc (.cells #[.bool false] 4)) w.heap.size k s aF fs.length cF aL ws.length cL x :=
    ((Keeps.refl (fun _ => True) _).alloc _).heap (ItBox.new w k s aF fs.length cF aL ws.length cL x) trivial
  obtain ⟨tx, htx⟩ : ∃ tx, s :: (It.fieldsS fs ++ ws) = tx := ⟨_, rfl⟩
  rw [htx]
  have HTx0 := Lib.hid htx
  unfold itc at hM hfi hbox
  unfold itv at hfi
  have HFi := Lib.hid hfi
  have HM := Lib.hid hM
  have HBx := Lib.hid hbox
  have HF := Lib.hid hF
  have HL := Lib.hid hL
  unfold itv
  clear hf hfi hM hF hL hbox htx
  refine callsIn_of_wp_marks Tryz.func161 rfl trivial ?_ rfl
  simp only [Tryz.ntmps161, List.size_toArray, List.length_cons, List.length_nil, Nat.reduceAdd, Nat.reduceSub, Array.replicate_succ, Array.replicate_zero, List.push_toArray, List.append_toArray, List.nil_append, List.cons_append]
  gi_wp2
  refine ⟨trivial, rfl, HFi.out.mono ?_⟩
  rintro e w1 ⟨rfl, hb⟩
  have hM1 : MRes w w1 := HM.out.keep (Keeps.of_below (S := fun _ => True) hb (fun k h _ => by simpa using h)) (fun _ _ => trivial)
  have hbx1 : ItBox w1 w.heap.size k s aF fs.length cF aL ws.length cL x := HBx.out.later hb
  have HM1 := Lib.hid hM1
  obtain ⟨c0, c1, c2, c3, c4⟩ := hbx1.at
  have htx := fun W => (callsIn_wide (n := 0)).2 (texts_mk k s aF fs.length cF aL ws.length cL x W)
  unfold itv at htx
  have HTx := Lib.hid htx
  clear htx hbx1 hb hM1
  gi_wp2
  refine ⟨trivial, rfl, (HTx.out _).mono ?_⟩
  rintro e w2 ⟨rfl, hw2⟩
  have hM2 : MRes w w2 := by rw [hw2]; exact HM1.out.keep ((Keeps.refl (fun _ => True) w1).alloc _) (fun _ _ => trivial)
  have hbx2 : ItBox w2 w1.heap.size k s aF fs.length cF aL ws.length cL x := by rw [hw2]; exact ItBox.new w1 k s aF fs.length cF aL ws.length cL x
  obtain ⟨Dt, hDt⟩ : ∃ Dt : Nat → Prop, Dt = fun k => k = w1.heap.size ∨ k < w.heap.size := ⟨_, rfl⟩
  have hseq := texts_seq w1.heap.size k s aF cF fs aL cL ws x w2 hbx2 (HF.out.later hM2.2) (HL.out.later hM2.2) hlF hlL Dt (fun _ => False) (by rw [hDt]; exact .inl rfl) (fun b off e h => by obtain ⟨b', off', e', hb', -⟩ := HF.out.get h; rw [e] at e'; cases e'; rw [hDt]; exact .inr hb') (fun b off e h => by obtain ⟨b', off', e', hb', -⟩ := HL.out.get h; rw [e] at e'; cases e'; rw [hDt]; exact .inr hb')
  have hsz : w.heap.size + 2 ≤ w1.heap.size := by have := HM1.out.1.lt; omega
  have hs2 : w2.heap.size = w1.heap.size + 1 := by rw [hw2]; simp
  rw [HTx0.out] at hseq
  have hDn : ¬ Dt (w.heap.size + 1) := by rw [hDt]; rintro (h | h) <;> omega
  have hDlt : ∀ k, Dt k → k < w2.heap.size := by rw [hDt]; rintro k (h | h) <;> omega
  have HSeq := Lib.hid hseq
  have HM2 := Lib.hid hM2
  clear hDt hseq hM2 hbx2 hw2 c0 c1 c2 c3 c4 HTx HM1 HFi HBx HM
  generalize fs.length = nF at *
  generalize ws.length = nL at *
  gi_wp2
  refine wpIn_rangeT (gf := 211) (lb := #[.pointer (some ⟨w1.heap.size, 0, none⟩)]) rfl (enters_of Tryz.func211 (by kernel_rfl) rfl) HSeq.out (Below.refl _ _) hDlt (fun k h => h.elim) (fun _ => rfl)
    (fun _ pre W => (pre.all fun t => decide (t.length ≤ 300)) = true ∧ MRes w W) (fun c _ pre W => c = .ret ∧ (pre.all fun t => decide (t.length ≤ 300)) = false ∧ MRes w W) ?hI ?hIx (fun h => by cases h) ⟨rfl, HM2.out⟩
    (fun _ t a' _ => a' = { tmps := #[.agg #[.int .i64 k, .string ⟨s.toArray⟩, .slice aF nF cF, .slice aL nL cL, .int .i64 x], .pointer (some ⟨w.heap.size, 0, none⟩), .pointer (some ⟨w.heap.size + 1, 0, none⟩), .string ⟨t.toArray⟩, .pointer (some ⟨w.heap.size, 4, none⟩), .int .i64 x, .bool (decide (x < 0)), .bool (decide (x < 0)), .pointer (some ⟨w.heap.size, 4, none⟩), .int .i64 x, .bool (decide (9007199254740992 < x)), .bool (decide (x < 0) || decide (9007199254740992 < x)), .bool (decide (x < 0) || decide (9007199254740992 < x)), .agg #[.int .i64 k, .string ⟨s.toArray⟩, .slice aF nF cF, .slice aL nL cL, .int .i64 x], .bool true, .bool false, .bool (decide (x < 0) || decide (9007199254740992 < x)), .agg #[.int .i64 k, .string ⟨s.toArray⟩, .slice aF nF cF, .slice aL nL cL, .int .i64 x], .func (.func 211) #[] #[.pointer (some ⟨w1.heap.size, 0, none⟩)], .string ⟨t.toArray⟩, undef, undef, undef], defers := [] })
    (fun O x a' A C h hk => h) ?assign ?body ?done ?stop
  case hI =>
    rintro O s A C ⟨h1, h2⟩ hk
    exact ⟨h1, h2.keep hk fun k hk' => ⟨id, .inl (by omega)⟩⟩
  case hIx =>
    rintro c O s A C ⟨h0, h1, h2⟩ hk
    exact ⟨h0, h1, h2.keep hk fun k hk' => ⟨id, .inl (by omega)⟩⟩
  case assign =>
    intro O pre t A K hO hA hi hK
    have HK := Lib.hid hK
    have HI := Lib.hid hi
    clear hK hi
    unfold encW
    gi_wp2
    exact HK.out _ _ (Keeps.refl _ _) HI.out rfl
  case body =>
    rintro O pre t a' A hO hA ⟨r, hr⟩ ⟨hp, hm⟩ rfl hlen
    by_cases hb : t.length ≤ 300
    · have hb1 : (t.length : Int) ≤ 300 := by omega
      have HQ : Hid (((pre ++ [t]).all fun t => decide (t.length ≤ 300)) = true) := Lib.hid (by rw [List.all_append, hp]; simp [hb])
      clear hb hp
      gi_wp2
      exact ⟨Keeps.refl _ _, O, ⟨fun j hj => ⟨(hO j hj).2, .inl hj⟩, HQ.out, hm⟩⟩
    · have hb1 : 300 < (t.length : Int) := by omega
      have HQ : Hid (((pre ++ [t]).all fun t => decide (t.length ≤ 300)) = false) := Lib.hid (by rw [List.all_append, hp]; simp; omega)
      have HM3 := Lib.hid hm
      have c1 := hm.1.cell
      have f1 := hm.1.frozen
      clear hb hp hm
      gi_wp2
      have nS : ¬ RoundS Dt (fun _ => False) w2.heap.size O (w.heap.size + 1) := by
        rintro (h | h | h)
        · exact hDn h
        · exact h
        · omega
      have hk : Keeps (RoundS Dt (fun _ => False) w2.heap.size O) A (A.setCell ⟨w.heap.size + 1, 0, none⟩ (.bool false)) := (Keeps.refl _ _).setCell (p := ⟨w.heap.size + 1, 0, none⟩) (.inr nS) _
      exact ⟨hk, O, ⟨fun j hj => ⟨Nat.lt_of_lt_of_le (hO j hj).2 hk.size, .inl hj⟩, rfl, HQ.out, HM3.out.set false⟩⟩
  case done =>
    rintro O D xs A hD hDs hO - rfl ⟨hp, hm⟩ hDd
    have b1 := hm.1.cell
    have f1 := hm.1.frozen
    obtain ⟨hB, hE⟩ := hm.set true
    have hk : Keeps (fun k => k ≠ w.heap.size + 1) A (A.setCell ⟨w.heap.size + 1, 0, none⟩ (.bool true)) := (Keeps.refl _ _).setCell (.inr (by simp)) _
    have hd2 := hk.heap hDd (by omega)
    have HE := Lib.hid (And.intro hE (And.intro hd2 hB))
    have HP := Lib.hid hp
    clear hE hk hd2 hB hp hm
    gi_wp2
    obtain ⟨hE, hd2, hB⟩ := HE.out
    refine ⟨by simp, .inl ⟨_, _, rfl, run_takeDeferred hd2, ?_⟩⟩
    have hk3 : Keeps (fun k => k ≠ D) (A.setCell ⟨w.heap.size + 1, 0, none⟩ (.bool true)) ((A.setCell ⟨w.heap.size + 1, 0, none⟩ (.bool true)).putObj D (.deferred none)) := (Keeps.refl _ _).putObj (fun h => h rfl) _
    refine ⟨_, results_cell rfl rfl (loadVarB _ _ _ (Boxed.cell (hk3.heap hB (by omega)))), by rw [HP.out], hE.trans (hk3.below hE.size fun k hk => by omega)⟩
  case stop =>
    rintro O D c pre A hD hDs hO - hSp ⟨rfl, hp, hm⟩ hDd
    have b1 := hm.1.cell
    have HP : Hid ((tx.all fun t => decide (t.length ≤ 300)) = false) := Lib.hid (by
      obtain ⟨r, rfl⟩ := hSp
      rw [List.all_append, hp]
      rfl)
    clear hp
    gi_wp2
    refine ⟨by simp, .inl ⟨_, _, rfl, run_takeDeferred hDd, ?_⟩⟩
    have hk3 : Keeps (fun k => k ≠ D) A (A.putObj D (.deferred none)) := (Keeps.refl _ _).putObj (fun h => h rfl) _
    refine ⟨_, results_cell rfl rfl (loadVarB _ _ _ (Boxed.cell (hk3.heap hm.1 (by omega)))), by rw [HP.out], hm.2.trans (hk3.below hm.2.size fun k hk => by omega)⟩

theorem may_any (k x : Int) (s : List UInt8) (aF : Option Addr) (cF : Nat) (fs : List (List UInt8 × List UInt8)) (aL : Option Addr) (cL : Nat) (ws : List (List UInt8)) (w : World) (hF : Fds w aF cF fs) (hL : Wds w aL cL ws) (hlF : fs.length ≤ 1000000) (hlL : ws.length ≤ 1000000) :
    Calls Tryz.prog 161 #[itv k s aF fs.length cF aL ws.length cL x] w fun e w' => e = .returned (.bool (It.mayB ⟨k, s, fs, ws, x⟩)) ∧ Below w.heap.size w w' := by
  refine (callsIn_wide (n := 0)).1 ?_
  by_cases hx : x < 0 ∨ 9007199254740992 < x
  · rw [show It.mayB ⟨k, s, fs, ws, x⟩ = false by rcases hx with h | h <;> simp [It.mayB] <;> omega]
    exact may_exp k x s aF _ cF aL _ cL w hx
  · have h0 : 0 ≤ x := by omega
    have h1 : x ≤ 9007199254740992 := by omega
    cases hf : It.fitsB ⟨k, s, fs, ws, x⟩ with
    | false =>
      rw [show It.mayB ⟨k, s, fs, ws, x⟩ = false by simp [It.mayB, hf]]
      exact may_fits k x s aF cF fs aL cL ws w hF hL hlF hlL h0 h1 hf
    | true =>
      rw [show It.mayB ⟨k, s, fs, ws, x⟩ = (s :: (It.fieldsS fs ++ ws)).all fun t => decide (t.length ≤ 300) by simp only [It.mayB, hf, It.textsS, decide_eq_true h0, decide_eq_true h1, Bool.true_and]]
      exact may_texts k x s aF cF fs aL cL ws w hF hL hlF hlL h0 h1 hf

end Go.Proofs.YtokcbcjonbjkgaaGreatDoor
