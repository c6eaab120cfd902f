/- The contracts of slices.Chunk over replies, by two, and of the iterator that it hands out. The contract of filled: an item with what is in it, by its kind. The contract of read: the one item that may have these words. -/
import Derived.Test.YtbkhnnjjpelfcaaGreatDoorItMay
import Derived.Test.YtbkhnnjjpelfcaaGreatDoorSeqB
import Derived.BigQuiet
import Derived.Test.YtbkhnnjjpelfcaaGreatDoorItBoxes
import Derived.Test.YtbkhnnjjpelfcaaGreatDoorRoundWp
import Derived.Test.YtbkhnnjjpelfcaaGreatDoorDpPlain
import Derived.Test.YtbkhnnjjpelfcaaGreatDoorDpRps
import Derived.Test.YtbkhnnjjpelfcaaGreatDoorTxNumber
namespace Go.Proofs.YtbkhnnjjpelfcaaGreatDoor
open Go.RowKit Go.Shelf
attribute [local go_sem] Oper.semAt_some
set_option linter.unusedVariables false
set_option linter.unusedSimpArgs false

set_option maxHeartbeats 1000000 in
theorem chunk_mk (a : Option Addr) (len cap : Nat) (w : World) :
    Calls Tryz.prog 52 #[.slice a len cap, .int .i64 2] w fun e w' =>
      e = .returned (.func (.func 75) #[] #[.pointer (some ⟨w.heap.size, 0, none⟩), .pointer (some ⟨w.heap.size + 1, 0, none⟩)]) ∧ w' = (w.alloc (.cells #[.slice a len cap] 43)).alloc (.cells #[.int .i64 2] 3) := by
  go_enter Tryz.func52, Tryz.ntmps52
  go_wp2
  go_ret
  exact ⟨rfl, rfl⟩

/-- where the pairs begin. -/
def evens (q : Nat) : List Nat := (List.range (q / 2)).map (2 * ·)
theorem evens_next {q : Nat} (h : q % 2 = 0) : evens (q + 2) = evens q ++ [q] := by
  unfold evens
  rw [show (q + 2) / 2 = q / 2 + 1 by omega, List.range_succ, List.map_append, List.map_singleton, show 2 * (q / 2) = q by omega]
theorem evens_len (q : Nat) : (evens q).length = q / 2 := by simp [evens]
theorem evens_pre {q n : Nat} (h : q ≤ n) : evens q <+: evens n := by
  unfold evens
  refine List.IsPrefix.map _ ?_
  obtain ⟨m, hm⟩ := Nat.exists_eq_add_of_le (Nat.div_le_div_right (c := 2) h)
  rw [hm, List.range_add]
  exact List.prefix_append _ _
/-- a pair, as the iterator hands it on. -/
def encK (b off : Nat) (q : Nat) : Array Value := #[.slice (some ⟨b, off + q * 4, none⟩) 2 2]

set_option maxRecDepth 100000 in
set_option maxHeartbeats 4000000 in
theorem chunk_seq (Bx Bn b off len cap : Nat) (a : Option Addr) (w : World) (h1 : Boxed w Bx 43 (.slice a len cap)) (h2 : Boxed w Bn 3 (.int .i64 2)) (hn : len ≤ 1000000) (hc : len ≤ cap) (hcm : cap ≤ 9223372036854775807) (he : len % 2 = 0) (ha : len = 0 ∨ a = some ⟨b, off, none⟩)
    (Dt Pv : Nat → Prop) (hD1 : Dt Bx) (hD2 : Dt Bn) :
    SeqB (fun q => q + 2 ≤ len) true Tryz.prog 75 #[.pointer (some ⟨Bx, 0, none⟩), .pointer (some ⟨Bn, 0, none⟩)] (encK b off) Dt Pv (fun ys => ys = evens len) (fun p => p <+: evens len) (len / 2) w := by
  intro l J Jx W hW hJ _ _ hY h0
  have HB1 : Boxed W Bx 43 (.slice a len cap) := (hW.block _ h1.lt).trans h1
  have HB2 : Boxed W Bn 3 (.int .i64 2) := (hW.block _ h2.lt).trans h2
  have hl1 := HB1.lt
  have hl2 := HB2.lt
  have e1 := HB1.cell
  have e2 := HB2.cell
  have HY := Lib.hid hY
  have hWs := hW.size
  have HA := Lib.hid hJ
  have HEv := Lib.hid he
  clear h1 h2 HB1 HB2 hY hJ hW he
  refine callsIn_of_wp Tryz.func75 rfl trivial ?_ rfl
  simp only [Tryz.ntmps75, List.size_toArray, List.length_cons, List.length_nil, Nat.reduceAdd, Nat.reduceSub, Array.replicate_succ, Array.replicate_zero, List.push_toArray, List.append_toArray, List.nil_append, List.cons_append]
  gi_wp2
  gi_loopw [4] (fun i wr => ∃ (q : Nat) (O : Nat → Prop), i = .int .i64 q ∧ q ≤ len ∧ Hid (q % 2 = 0) ∧ (∀ k, O k → W.heap.size ≤ k ∧ k < wr.heap.size) ∧ J O (evens q) wr ∧ Hid (Keeps Dt W wr) ∧ W.heap.size ≤ wr.heap.size) (fun i _ => len - (intOf i).toNat)
  case atStart => exact ⟨0, fun _ => False, rfl, Nat.zero_le _, Lib.hid rfl, fun _ h => h.elim, h0, Lib.hid (Keeps.refl _ _), Nat.le_refl _⟩
  case round =>
    obtain ⟨q, O, rfl, hq, HQ2, hO, hJs, HK, hsz⟩ := hrel
    have c1 := (HK.out.cell (p := ⟨Bx, 0, none⟩) hl1 hD1).trans e1
    have c2 := (HK.out.cell (p := ⟨Bn, 0, none⟩) hl2 hD2).trans e2
    have HJs := Lib.hid hJs
    clear hJs e1 e2
    by_cases hlt : q < len
    · obtain rfl := ha.resolve_left (by omega)
      have h2q : q + 2 ≤ len := by have := HQ2.out; have := HEv.out; omega
      have hwl : (len : Int) ≤ 1000000 := by omega
      have hcI : (len : Int) ≤ (cap : Int) := by omega
      have hcmI : (cap : Int) ≤ 9223372036854775807 := by omega
      have hkI : (q : Int) < (len : Int) := by omega
      have hqc : (q : Int) ≤ (cap : Int) := by omega
      have hmin : min (2 : Int) ((len : Int) - (q : Int)) = 2 := by omega
      have hmin2 : min (2 : Int) (((len - q : Nat)) : Int) = 2 := by omega
      have ew : IntKind.i64.wrap ((q : Int) + 2) = (q : Int) + 2 := IntWalk.i64_in _ (by omega)
      have hq2c : (q : Int) + 2 ≤ (cap : Int) := by omega
      gi_wp2
      refine wpIn_wide.2 ?_
      go_quiet (fail)
      obtain ⟨wq, hwq⟩ : ∃ wq, wr.drewN nq = wq := ⟨_, rfl⟩
      have hkq : ∀ S : Nat → Prop, Keeps S wr wq := fun S => by rw [← hwq]; exact Keeps.of_below (below_drewN (Below.refl wr.heap.size wr) nq) fun _ h _ => h
      have hsq : wq.heap.size = wr.heap.size := by rw [← hwq]; rfl
      have d1 : wq.cell? ⟨Bx, 0, none⟩ = some (.slice (some ⟨b, off, none⟩) len cap) := by rw [← hwq]; exact c1
      have d2 : wq.cell? ⟨Bn, 0, none⟩ = some (.int .i64 2) := by rw [← hwq]; exact c2
      rw [hwq]
      have hJa := HA.out _ _ _ _ HJs.out (hkq _)
      obtain ⟨fn, tmps, assign, body, hy, hR⟩ := HY.out O (evens q) q wq (fun j hj => ⟨(hO j hj).1, by rw [hsq]; exact (hO j hj).2⟩) (by omega) hJa (by rw [evens_len]; have := HQ2.out; have := HEv.out; omega) h2q
      have HR := Lib.hid hR
      have HKQ := Lib.hid (hkq Dt)
      clear hR hJa hwq hkq c1 c2 ha
      unfold encK at hy
      gi_wp2
      refine ⟨rfl, HR.out.mono ?_⟩
      rintro e W3 ⟨hk3, O', hg3, hout⟩
      obtain ⟨hO', hK3⟩ := round_next hO (Nat.le_of_eq hsq.symm) hsz rfl (HK.out.trans HKQ.out) hk3 hg3
      have hK13 : Keeps Dt wq W3 := hk3.mono fun _ _ h => .inl h
      have f2 := (hK13.cell (p := ⟨Bn, 0, none⟩) (by simp; omega) hD2).trans d2
      have HK3 := Lib.hid hK3
      have HO' := Lib.hid hO'
      have hs3 := hK3.size
      have HN := Lib.hid (evens_next HQ2.out)
      clear hk3 hg3 hK3 hO' d1 d2 hy HR hK13
      rcases hout with ⟨rfl, hJ3⟩ | ⟨rfl, hJx3⟩
      · have HJ3 := Lib.hid hJ3
        clear hJ3
        gi_wp2
        go_roundw
        case rel => exact ⟨q + 2, O', by go_num, h2q, Lib.hid (by have := HQ2.out; omega), HO'.out, by rw [HN.out]; exact HJ3.out, HK3, hs3⟩
        case measure => simp [intOf]; omega
      · have HJ3 := Lib.hid hJx3
        clear hJx3
        gi_wp2
        refine bodyPost_ret (results_none rfl _ _ _) rfl ?_
        exact ⟨⟨_, rfl⟩, hs3, O', HO'.out, .inr ⟨_, by rw [← HN.out]; exact evens_pre h2q, HJ3.out⟩⟩
    · obtain rfl : q = len := by omega
      gi_wp2
      go_end0
      exact ⟨⟨_, rfl⟩, hsz, O, hO, .inl ⟨_, rfl, HJs.out⟩⟩
end Go.Proofs.YtbkhnnjjpelfcaaGreatDoor
namespace Go.Proofs.YtbkhnnjjpelfcaaGreatDoor
open Go.RowKit Go.Shelf
attribute [local go_sem] Oper.semAt_some
set_option linter.unusedVariables false
set_option linter.unusedSimpArgs false

/-- what is told of an item, or none. -/
def IOut (o : Option It.I) (w : World) (e : Ending) (W : World) : Prop := Below w.heap.size w W ∧ match o with
  | none => e = .returned (.tuple #[itv 0 [] none 0 0 none 0 0 0, .bool false])
  | some i => ∃ aF cF aL cL, e = .returned (.tuple #[itv i.kind i.s aF i.f.length cF aL i.l.length cL i.exp, .bool true]) ∧ Fds W aF cF i.f ∧ Wds W aL cL i.l ∧ (aL = none → cL = 0) ∧ (∀ b off, aF = some ⟨b, off, none⟩ → w.heap.size ≤ b) ∧ ∀ b off, aL = some ⟨b, off, none⟩ → w.heap.size ≤ b

/-- filled's two boxes. -/
def FB (w : World) (k x : Int) (s : List UInt8) (W : World) : Prop := ItBox W w.heap.size k s none 0 0 none 0 0 x ∧ ItBox W (w.heap.size + 1) 0 [] none 0 0 none 0 0 0 ∧ Below w.heap.size w W
theorem fb_new (w : World) (k x : Int) : FB w k x [] ((w.alloc (itc k [] none 0 0 none 0 0 x)).alloc (itc 0 [] none 0 0 none 0 0 0)) := by
  refine ⟨((Below.refl _ _).alloc (Nat.le_refl _) _).block _ (by simp) |>.trans (ItBox.new w k [] none 0 0 none 0 0 x), ?_, ((Below.refl _ w).alloc (Nat.le_refl _) _).alloc (by simp) _⟩
  have := ItBox.new (w.alloc (itc k [] none 0 0 none 0 0 x)) 0 [] none 0 0 none 0 0 0
  rwa [World.size_alloc] at this
theorem below_stIt {w W : World} {B : Nat} (h : Below w.heap.size w W) (hB : w.heap.size ≤ B) (k : Int) (s : List UInt8) (aF : Option Addr) (nF cF : Nat) (aL : Option Addr) (nL cL : Nat) (x : Int) : Below w.heap.size w (stIt W B k s aF nF cF aL nL cL x) :=
  ((((h.setCell (p := ⟨B, 0, none⟩) hB _).setCell (p := ⟨B, 1, none⟩) hB _).setCell (p := ⟨B, 2, none⟩) hB _).setCell (p := ⟨B, 3, none⟩) hB _).setCell (p := ⟨B, 4, none⟩) hB _

set_option maxRecDepth 100000 in
set_option maxHeartbeats 4000000 in
theorem filled_no (k x : Int) (a : Option Addr) (n cap : Nat) (w : World) (h1 : ¬ k = 1) (h2 : ¬ k = 2) (h3 : ¬ k = 3) (h4 : ¬ k = 4) :
    CallsIn Fence.wide 0 Tryz.prog 33 #[itv k [] none 0 0 none 0 0 x, .slice a n cap] w (IOut none w) := by
  have hfb := fb_new w k x
  unfold itc at hfb
  unfold itv
  have HF := Lib.hid hfb
  obtain ⟨c0, -⟩ := hfb.1.at
  have e1 : (k == 1) = false := by rw [beq_eq_false_iff_ne]; exact h1
  have e2 : (k == 2) = false := by rw [beq_eq_false_iff_ne]; exact h2
  have e3 : (k == 3) = false := by rw [beq_eq_false_iff_ne]; exact h3
  have e4 : (k == 4) = false := by rw [beq_eq_false_iff_ne]; exact h4
  clear hfb
  refine callsIn_of_wp_marks Tryz.func33 rfl trivial ?_ rfl
  simp only [Tryz.ntmps33, List.size_toArray, List.length_cons, List.length_nil, Nat.reduceAdd, Nat.reduceSub, Array.replicate_succ, Array.replicate_zero, List.push_toArray, List.append_toArray, List.nil_append, List.cons_append]
  gi_wp2
  exact ⟨_, results_cellt rfl rfl (loadVarI HF.out.2.1), HF.out.2.2, rfl⟩

set_option maxRecDepth 100000 in
set_option maxHeartbeats 8000000 in
theorem filled_1no (x : Int) (a : Option Addr) (n cap : Nat) (w : World) (hn : ¬ n = 1) :
    CallsIn Fence.wide 0 Tryz.prog 33 #[itv 1 [] none 0 0 none 0 0 x, .slice a n cap] w (IOut none w) := by
  have hfb := fb_new w 1 x
  unfold itc at hfb
  unfold itv
  have HF := Lib.hid hfb
  obtain ⟨c0, -⟩ := hfb.1.at
  have e1 : ((n : Int) == 1) = false := by rw [beq_eq_false_iff_ne]; omega
  have e2 : ¬ (n : Int) = 1 := by omega
  clear hfb
  refine callsIn_of_wp_marks Tryz.func33 rfl trivial ?_ rfl
  simp only [Tryz.ntmps33, List.size_toArray, List.length_cons, List.length_nil, Nat.reduceAdd, Nat.reduceSub, Array.replicate_succ, Array.replicate_zero, List.push_toArray, List.append_toArray, List.nil_append, List.cons_append]
  gi_wp2
  exact ⟨_, results_cellt rfl rfl (loadVarI HF.out.2.1), HF.out.2.2, rfl⟩

set_option maxRecDepth 100000 in
set_option maxHeartbeats 8000000 in
theorem filled_2no (x : Int) (a : Option Addr) (n cap : Nat) (w : World) (hn : n % 2 = 1) :
    CallsIn Fence.wide 0 Tryz.prog 33 #[itv 2 [] none 0 0 none 0 0 x, .slice a n cap] w (IOut none w) := by
  have hfb := fb_new w 2 x
  unfold itc at hfb
  unfold itv
  have HF := Lib.hid hfb
  obtain ⟨c0, -⟩ := hfb.1.at
  have e1 : Int.tmod (n : Int) 2 = 1 := by rw [Int.tmod_eq_emod_of_nonneg (by omega)]; omega
  have e2 : (n : Int) % 2 = 1 := by omega
  clear hfb
  refine callsIn_of_wp_marks Tryz.func33 rfl trivial ?_ rfl
  simp only [Tryz.ntmps33, List.size_toArray, List.length_cons, List.length_nil, Nat.reduceAdd, Nat.reduceSub, Array.replicate_succ, Array.replicate_zero, List.push_toArray, List.append_toArray, List.nil_append, List.cons_append]
  gi_wp2
  exact ⟨_, results_cellt rfl rfl (loadVarI HF.out.2.1), HF.out.2.2, rfl⟩

set_option maxRecDepth 100000 in
set_option maxHeartbeats 8000000 in
theorem filled_1 (x : Int) (s : List UInt8) (b off cap : Nat) (w : World) (hb : b < w.heap.size) (hc : w.cell? ⟨b, off + 1, none⟩ = some (.string ⟨s.toArray⟩)) (hcap : 1 ≤ cap) :
    CallsIn Fence.wide 0 Tryz.prog 33 #[itv 1 [] none 0 0 none 0 0 x, .slice (some ⟨b, off, none⟩) 1 cap] w (IOut (some ⟨1, s, [], [], x⟩) w) := by
  have hfb := fb_new w 1 x
  unfold itc at hfb
  unfold itv
  have HF := Lib.hid hfb
  obtain ⟨c0, -⟩ := hfb.1.at
  have c1 := (hfb.2.2.cell (p := ⟨b, off + 1, none⟩) hb).trans hc
  have hf2 : ItBox ((w.alloc (itc 1 s none 0 0 none 0 0 x)).alloc (itc 1 s none 0 0 none 0 0 x)) (w.heap.size + 1) 1 s none 0 0 none 0 0 x := by
    have := ItBox.new (w.alloc (itc 1 s none 0 0 none 0 0 x)) 1 s none 0 0 none 0 0 x
    rwa [World.size_alloc] at this
  have hbe : Below w.heap.size w ((w.alloc (itc 1 s none 0 0 none 0 0 x)).alloc (itc 1 s none 0 0 none 0 0 x)) := ((Below.refl _ w).alloc (Nat.le_refl _) _).alloc (by simp) _
  unfold itc at hf2 hbe
  have HE := Lib.hid (And.intro hf2 hbe)
  clear hfb hf2 hbe hc
  refine callsIn_of_wp_marks Tryz.func33 rfl trivial ?_ rfl
  simp only [Tryz.ntmps33, List.size_toArray, List.length_cons, List.length_nil, Nat.reduceAdd, Nat.reduceSub, Array.replicate_succ, Array.replicate_zero, List.push_toArray, List.append_toArray, List.nil_append, List.cons_append]
  gi_wp2
  exact ⟨_, results_cellt rfl rfl (loadVarI HE.out.1), HE.out.2, none, 0, none, 0, rfl, fds_nil _, wds_nil _, fun _ => rfl, fun _ _ h => (by cases h), fun _ _ h => (by cases h)⟩

theorem dp_infoW : (Tryz.prog.info? 9).map (fun i => (i.zero, i.size, i.bytes)) = some (some (.string ⟨#[]⟩), 1, 16) := by kernel_rfl
/-- the list's loop: so many words lie in the item. -/
def FL (w : World) (k x : Int) (ss : List (List UInt8)) (q : Nat) (W : World) : Prop :=
  ∃ a c, ItBox W w.heap.size k [] none 0 0 a q c x ∧ ItBox W (w.heap.size + 1) 0 [] none 0 0 none 0 0 0 ∧ W.ownsRow (w.heap.size + 2) 9 1 (.slice a q c) q (wcells (ss.take q)) ∧ Below w.heap.size w W
theorem FL.step {w A w3 : World} {k x : Int} {ss : List (List UInt8)} {q g cap c : Nat} {a : Option Addr} {o1 o2 : Obj} (hx : ItBox A w.heap.size k [] none 0 0 a q c x) (hz : ItBox A (w.heap.size + 1) 0 [] none 0 0 none 0 0 0) (ho : A.ownsRow (w.heap.size + 2) 9 1 (.slice a q c) q (wcells (ss.take q)))
    (hB : Below w.heap.size w A) (hq : q < ss.length) (hown : w3.ownsRow (w.heap.size + 2) 9 1 (.slice (some ⟨g, 0, none⟩) (q + 1) cap) (q + 1) (wcells (ss.take q) ++ [.string ⟨(ss.getD q []).toArray⟩])) (hg : ((A.alloc o1).alloc o2).grownBy w3 (Value.slice a q c).ownBlock) :
    ItBox w3 w.heap.size k [] none 0 0 a q c x ∧ FL w k x ss (q + 1) (w3.setCell ⟨w.heap.size, 3, none⟩ (.slice (some ⟨g, 0, none⟩) (q + 1) cap)) := by
  have hk3 : Keeps (fun j => some j ≠ (Value.slice a q c).ownBlock) A w3 := (((Keeps.refl _ A).alloc o1).alloc o2).trans (Keeps.of_grown hg fun r e h => h e.symm)
  have hx3 : ItBox w3 w.heap.size k [] none 0 0 a q c x := hk3.heap hx fun e => by have := (ho.lt _ e.symm).1; omega
  have hz3 : ItBox w3 (w.heap.size + 1) 0 [] none 0 0 none 0 0 0 := hk3.heap hz fun e => by have := (ho.lt _ e.symm).1; omega
  have hks : Keeps (fun j => j ≠ w.heap.size) w3 (w3.setCell ⟨w.heap.size, 3, none⟩ (.slice (some ⟨g, 0, none⟩) (q + 1) cap)) := (Keeps.refl _ w3).setCell (.inr fun h => h rfl) _
  refine ⟨hx3, _, _, hx3.set3 _ _ _, hks.heap hz3 (by omega), ?_, ?_⟩
  · rw [wcells_next ss hq rfl]
    exact owns_kept (S := fun j => j ≠ w.heap.size) hown hks fun g hg => by have := (hown.lt g hg).1; omega
  · exact (hB.trans (hk3.below hB.size fun j hj e => by have := (ho.lt j e.symm).1; omega)).setCell (p := ⟨w.heap.size, 3, none⟩) (Nat.le_refl _) _
theorem fl_new {w W : World} {k x : Int} {ss : List (List UInt8)} (h : FB w k x [] W) : FL w k x ss 0 W :=
  ⟨none, 0, h.1, h.2.1, World.ownsRow_nil _ _ _ _, h.2.2⟩
theorem FL.end_ {w W : World} {k x : Int} {ss : List (List UInt8)} (h : FL w k x ss ss.length W) (hs : ∀ s ∈ ss, s.length ≤ 1000000) : ∃ a c, ItBox W w.heap.size k [] none 0 0 a ss.length c x ∧ ItBox W (w.heap.size + 1) 0 [] none 0 0 none 0 0 0 ∧
    ItBox (stIt W (w.heap.size + 1) k [] none 0 0 a ss.length c x) (w.heap.size + 1) k [] none 0 0 a ss.length c x ∧ Wds (stIt W (w.heap.size + 1) k [] none 0 0 a ss.length c x) a c ss ∧ (a = none → c = 0) ∧ (∀ b off, a = some ⟨b, off, none⟩ → w.heap.size ≤ b) ∧ Below w.heap.size w (stIt W (w.heap.size + 1) k [] none 0 0 a ss.length c x) := by
  obtain ⟨a, c, h1, h2, h3, h4⟩ := h
  rw [List.take_length] at h3
  have hk : Keeps (fun j => j ≠ w.heap.size + 1) W (stIt W (w.heap.size + 1) k [] none 0 0 a ss.length c x) := (Keeps.refl _ W).stIt (.inr fun h => h rfl) k [] none 0 0 a ss.length c x
  have h5 := owns_kept (S := fun j => j ≠ w.heap.size + 1) h3 hk fun g hg => by have := (h3.lt g hg).1; omega
  obtain ⟨a', c', e, hw, -⟩ := wds_of_row h5 (fun s h => by have := hs s h; omega)
  injection e with e1 e2 e3
  subst e1 e3
  refine ⟨a, c, h1, h2, h2.store k [] none 0 0 a ss.length c x, hw, ?_, ?_, below_stIt h4 (by omega) k [] none 0 0 a ss.length c x⟩
  · rintro rfl
    rcases h3.2 with ⟨e, -⟩ | ⟨g, c2, cur, e, -⟩
    · injection e
    · injection e with e; cases e
  · rintro b off rfl
    rcases h3.2 with ⟨e, -⟩ | ⟨g, c2, cur, e, hg, -⟩
    · injection e with e; cases e
    · injection e with e; cases e; omega

set_option maxRecDepth 100000 in
set_option maxHeartbeats 8000000 in
theorem filled_l (k x : Int) (a : Option Addr) (cap : Nat) (ss : List (List UInt8)) (w : World) (hk : k = 3 ∨ k = 4) (hl : Rps w a cap ss) (hn : ss.length ≤ 1000000) :
    CallsIn Fence.wide 0 Tryz.prog 33 #[itv k [] none 0 0 none 0 0 x, .slice a ss.length cap] w (IOut (some ⟨k, [], [], ss, x⟩) w) := by
  have hfb := fb_new w k x
  unfold itc at hfb
  unfold itv
  obtain ⟨iS, hiS, hiS0, hiS1, hiS2⟩ := info_parts dp_infoW
  have HF := Lib.hid hfb
  have HL := Lib.hid hl
  have HS := Lib.hid hl.2.2.1
  obtain ⟨c0, -⟩ := hfb.1.at
  clear hfb hl
  have hwl : (ss.length : Int) ≤ 1000000 := by omega
  have HKK := Lib.hid hk
  rcases hk with rfl | rfl
  · refine callsIn_of_wp_marks Tryz.func33 rfl trivial ?_ rfl
    simp only [Tryz.ntmps33, List.size_toArray, List.length_cons, List.length_nil, Nat.reduceAdd, Nat.reduceSub, Array.replicate_succ, Array.replicate_zero, List.push_toArray, List.append_toArray, List.nil_append, List.cons_append]
    gi_wp2
    gi_loopw [52] (fun i wr => ∃ q : Nat, q ≤ ss.length ∧ i = .int .i64 (q : Int) ∧ Hid (FL w 3 x ss q wr)) (fun i _ => ss.length - (intOf i).toNat)
    case atStart => exact ⟨0, Nat.zero_le _, rfl, Lib.hid (fl_new HF.out)⟩
    case round =>
      obtain ⟨q, hq, rfl, HQ⟩ := hrel
      clear c0
      by_cases hlt : q < ss.length
      · obtain ⟨b, off, rfl, hb, hc⟩ := HL.out.get (by omega)
        obtain ⟨k1, n1, a3, l3, c3, g0, g1, g2, g3⟩ := hc q hlt
        obtain ⟨a2, c2, hx, hz, ho, hB⟩ := HQ.out
        have d0 := (hB.cell (p := ⟨b, off + q * 4, none⟩) hb).trans g0
        have d1 := (hB.cell (p := ⟨b, off + q * 4 + 1, none⟩) hb).trans g1
        have d2 := (hB.cell (p := ⟨b, off + q * 4 + 2, none⟩) hb).trans g2
        have d3 := (hB.cell (p := ⟨b, off + q * 4 + 3, none⟩) hb).trans g3
        have hltI : (q : Int) < (ss.length : Int) := by omega
        have b3 := hx.at.2.2.2.1
        have hlx := hx.lt
        have hown' := fun o1 o2 => ((ho.alloc o1).alloc o2)
        have HST := Lib.hid (fun o1 o2 w3 g cap => FL.step (o1 := o1) (o2 := o2) (w3 := w3) (g := g) (cap := cap) hx hz ho hB hlt)
        have hfx := hx.free.2.2.2.1
        clear hc g0 g1 g2 g3 hx hz ho hB HQ
        obtain ⟨n, hn1⟩ : ∃ n, ss.getD q [] = n := ⟨_, rfl⟩
        rw [hn1] at d1
        simp only [hn1] at HST
        clear hn1
        have HO := Lib.hid hown'
        clear hown'
        gi_wp2_with (gi_at_builtin; refine wpListIn_append_own_at _ rfl (.tmp 57) (.tmp 60) 23 rfl (w.heap.size + 2) 9 iS (.string ⟨#[]⟩) 1 16 Tryz.underlying23 hiS hiS0 hiS1 hiS2 rfl (by decide) _ _ _ rfl (HO.out _ _) ⟨wr.heap.size + 1, 0, none⟩ 1 1 [.string ⟨n.toArray⟩] rfl rfl ?c1 ?c2 ?c3 ?c4 ?c5 ?_)
        case c1 => exact one_news (wr.alloc _) (wr.heap.size + 1) (by simp) _ _
        case c2 => intro u hu; simp at hu; subst hu; rfl
        case c3 => unfold maxLen; omega
        case c4 => omega
        case c5 => simp; omega
        intro v' w1 hown1 hgrow _ hat
        obtain ⟨g', cap', rfl⟩ := ownsRow_succ hown1
        have hst := HST.out _ _ _ _ _ hown1 hgrow
        have b4 := hst.1.at.2.2.2.1
        have f4 := hst.1.free.2.2.2.1
        have HN := Lib.hid hst.2
        clear hst hown1 hgrow hat HST HO d0 d1 d2 d3 b3 hfx
        gi_wp2
        go_roundw
        case rel => exact ⟨q + 1, by omega, by go_num, HN⟩
        case measure => simp [intOf]; omega
      · obtain rfl : q = ss.length := by omega
        obtain ⟨a2, c2, hx, hz, hend, hw, hnn, hfar, hB⟩ := HQ.out.end_ HS.out
        obtain ⟨b0, b1, b2, b3, b4⟩ := hx.at
        obtain ⟨z0, z1, z2, z3, z4⟩ := hz.at
        obtain ⟨f0, f1, f2, f3, f4⟩ := hz.free
        have HEND := Lib.hid (And.intro hend (And.intro hw (And.intro hfar hB)))
        clear hend hw hB hx hz HQ HL
        gi_wp2
        exact ⟨_, results_cellt rfl rfl (loadVarI HEND.out.1), HEND.out.2.2.2, none, 0, a2, c2, rfl, fds_nil _, HEND.out.2.1, hnn, fun _ _ h => (by cases h), HEND.out.2.2.1⟩
  · refine callsIn_of_wp_marks Tryz.func33 rfl trivial ?_ rfl
    simp only [Tryz.ntmps33, List.size_toArray, List.length_cons, List.length_nil, Nat.reduceAdd, Nat.reduceSub, Array.replicate_succ, Array.replicate_zero, List.push_toArray, List.append_toArray, List.nil_append, List.cons_append]
    gi_wp2
    gi_loopw [52] (fun i wr => ∃ q : Nat, q ≤ ss.length ∧ i = .int .i64 (q : Int) ∧ Hid (FL w 4 x ss q wr)) (fun i _ => ss.length - (intOf i).toNat)
    case atStart => exact ⟨0, Nat.zero_le _, rfl, Lib.hid (fl_new HF.out)⟩
    case round =>
      obtain ⟨q, hq, rfl, HQ⟩ := hrel
      clear c0
      by_cases hlt : q < ss.length
      · obtain ⟨b, off, rfl, hb, hc⟩ := HL.out.get (by omega)
        obtain ⟨k1, n1, a3, l3, c3, g0, g1, g2, g3⟩ := hc q hlt
        obtain ⟨a2, c2, hx, hz, ho, hB⟩ := HQ.out
        have d0 := (hB.cell (p := ⟨b, off + q * 4, none⟩) hb).trans g0
        have d1 := (hB.cell (p := ⟨b, off + q * 4 + 1, none⟩) hb).trans g1
        have d2 := (hB.cell (p := ⟨b, off + q * 4 + 2, none⟩) hb).trans g2
        have d3 := (hB.cell (p := ⟨b, off + q * 4 + 3, none⟩) hb).trans g3
        have hltI : (q : Int) < (ss.length : Int) := by omega
        have b3 := hx.at.2.2.2.1
        have hlx := hx.lt
        have hown' := fun o1 o2 => ((ho.alloc o1).alloc o2)
        have HST := Lib.hid (fun o1 o2 w3 g cap => FL.step (o1 := o1) (o2 := o2) (w3 := w3) (g := g) (cap := cap) hx hz ho hB hlt)
        have hfx := hx.free.2.2.2.1
        clear hc g0 g1 g2 g3 hx hz ho hB HQ
        obtain ⟨n, hn1⟩ : ∃ n, ss.getD q [] = n := ⟨_, rfl⟩
        rw [hn1] at d1
        simp only [hn1] at HST
        clear hn1
        have HO := Lib.hid hown'
        clear hown'
        gi_wp2_with (gi_at_builtin; refine wpListIn_append_own_at _ rfl (.tmp 57) (.tmp 60) 23 rfl (w.heap.size + 2) 9 iS (.string ⟨#[]⟩) 1 16 Tryz.underlying23 hiS hiS0 hiS1 hiS2 rfl (by decide) _ _ _ rfl (HO.out _ _) ⟨wr.heap.size + 1, 0, none⟩ 1 1 [.string ⟨n.toArray⟩] rfl rfl ?c1 ?c2 ?c3 ?c4 ?c5 ?_)
        case c1 => exact one_news (wr.alloc _) (wr.heap.size + 1) (by simp) _ _
        case c2 => intro u hu; simp at hu; subst hu; rfl
        case c3 => unfold maxLen; omega
        case c4 => omega
        case c5 => simp; omega
        intro v' w1 hown1 hgrow _ hat
        obtain ⟨g', cap', rfl⟩ := ownsRow_succ hown1
        have hst := HST.out _ _ _ _ _ hown1 hgrow
        have b4 := hst.1.at.2.2.2.1
        have f4 := hst.1.free.2.2.2.1
        have HN := Lib.hid hst.2
        clear hst hown1 hgrow hat HST HO d0 d1 d2 d3 b3 hfx
        gi_wp2
        go_roundw
        case rel => exact ⟨q + 1, by omega, by go_num, HN⟩
        case measure => simp [intOf]; omega
      · obtain rfl : q = ss.length := by omega
        obtain ⟨a2, c2, hx, hz, hend, hw, hnn, hfar, hB⟩ := HQ.out.end_ HS.out
        obtain ⟨b0, b1, b2, b3, b4⟩ := hx.at
        obtain ⟨z0, z1, z2, z3, z4⟩ := hz.at
        obtain ⟨f0, f1, f2, f3, f4⟩ := hz.free
        have HEND := Lib.hid (And.intro hend (And.intro hw (And.intro hfar hB)))
        clear hend hw hB hx hz HQ HL
        gi_wp2
        exact ⟨_, results_cellt rfl rfl (loadVarI HEND.out.1), HEND.out.2.2.2, none, 0, a2, c2, rfl, fds_nil _, HEND.out.2.1, hnn, fun _ _ h => (by cases h), HEND.out.2.2.1⟩

theorem dp_infoF : (Tryz.prog.info? 42).map (fun i => (i.zero, i.size, i.bytes)) = some (some (.agg #[.string ⟨#[]⟩, .string ⟨#[]⟩]), 2, 32) := by kernel_rfl
theorem dp_block_no {α : Type} {id : Nat} {R : Nat → Prop} {O : Nat → Prop} {I : (Nat → Prop) → List α → World → Prop} {Ix : Code → (Nat → Prop) → List α → World → Prop} {xs : List α} {W : World} : ¬ LetsOut (Exit.inBlock id (ownPostT R O I Ix xs W)) := by
  rintro ⟨a, w, h⟩
  exact h
/-- the pair that begins there. -/
def pairAt (ss : List (List UInt8)) (q : Nat) : List UInt8 × List UInt8 := (ss.getD q [], ss.getD (q + 1) [])
theorem pairs_evens : ∀ (ss : List (List UInt8)), ss.length % 2 = 0 → (evens ss.length).map (pairAt ss) = Dp.pairsS ss
  | [], _ => rfl
  | [_], h => by simp at h
  | a :: b :: ss, h => by
    have ih := pairs_evens ss (by simp only [List.length_cons] at h; omega)
    have e : evens (a :: b :: ss).length = 0 :: (evens ss.length).map (· + 2) := by
      unfold evens
      have e2 : (a :: b :: ss).length / 2 = ss.length / 2 + 1 := by simp only [List.length_cons]; omega
      rw [e2, List.range_succ_eq_map, List.map_cons, List.map_map, List.map_map]
      congr 1
    rw [e, List.map_cons, List.map_map]
    show pairAt (a :: b :: ss) 0 :: _ = (a, b) :: Dp.pairsS ss
    rw [← ih]
    congr 1
/-- the hash's loop: so many fields lie in the item. -/
def FP (w : World) (x : Int) (ss : List (List UInt8)) (O : Nat → Prop) (pre : List Nat) (W : World) : Prop :=
  ∃ a c, ItBox W w.heap.size 2 [] a pre.length c none 0 0 x ∧ ItBox W (w.heap.size + 1) 0 [] none 0 0 none 0 0 0 ∧ W.ownsRow (w.heap.size + 2) 42 2 (.slice a pre.length c) pre.length (fcells (pre.map (pairAt ss))) ∧ (∀ g, (Value.slice a pre.length c).ownBlock = some g → O g) ∧ Below w.heap.size w W
theorem FP.abides {w : World} {x : Int} {ss : List (List UInt8)} {B : Nat} (hB : w.heap.size + 4 ≤ B) : AbidesT B (fun _ => False) (FP w x ss) := by
  rintro O s A C ⟨a, c, h1, h2, h3, h4, h5⟩ hk
  have own : ∀ k, k < B → IterS (fun _ => False) B O k := fun k h => ⟨id, .inl h⟩
  exact ⟨a, c, hk.heap h1 (own _ (by omega)), hk.heap h2 (own _ (by omega)), owns_kept h3 hk (fun g hg => ⟨id, .inr (h4 g hg)⟩), h4, h5.trans (hk.below h5.size fun k hk' => own k (by omega))⟩
theorem FP.round {w A w2 w3 : World} {x : Int} {ss : List (List UInt8)} {O Dt : Nat → Prop} {pre : List Nat} {q : Nat} {a : Option Addr} {c g cap B : Nat} {o : Obj} {aa : Act} {Ix : Code → (Nat → Prop) → List Nat → World → Prop}
    (hx : ItBox A w.heap.size 2 [] a pre.length c none 0 0 x) (hz : ItBox A (w.heap.size + 1) 0 [] none 0 0 none 0 0 0) (ho : A.ownsRow (w.heap.size + 2) 42 2 (.slice a pre.length c) pre.length (fcells (pre.map (pairAt ss)))) (hown : ∀ g, (Value.slice a pre.length c).ownBlock = some g → O g)
    (hB : Below w.heap.size w A) (hO : ∀ k, O k → B + 2 ≤ k ∧ k < A.heap.size) (hBs : w.heap.size + 4 ≤ B) (hDt : ∀ k, Dt k → w.heap.size + 2 ≤ k ∧ k < B) (hk : Keeps (fun _ => True) A w2)
    (h3 : w3.ownsRow (w.heap.size + 2) 42 2 (.slice (some ⟨g, 0, none⟩) (pre.length + 1) cap) (pre.length + 1) (fcells (pre.map (pairAt ss)) ++ [.string ⟨(pairAt ss q).1.toArray⟩, .string ⟨(pairAt ss q).2.toArray⟩])) (hg : (w2.alloc o).grownBy w3 (Value.slice a pre.length c).ownBlock) (hat : (Value.slice a pre.length c).ownBlock = some g ∨ g = (w2.alloc o).heap.size) (hlt : g < w3.heap.size) :
    ItBox w3 w.heap.size 2 [] a pre.length c none 0 0 x ∧ ownPostT (RoundS Dt (fun _ => False) B O) O (FP w x ss) Ix (pre ++ [q]) A .normal aa (w3.setCell ⟨w.heap.size, 2, none⟩ (.slice (some ⟨g, 0, none⟩) (pre.length + 1) cap)) := by
  have hk3 : Keeps (fun k => some k ≠ (Value.slice a pre.length c).ownBlock) A w3 := ((hk.mono fun _ _ _ => trivial).alloc o).trans (Keeps.of_grown hg fun r e h => h e.symm)
  have hx3 : ItBox w3 w.heap.size 2 [] a pre.length c none 0 0 x := hk3.heap hx fun e => by have := (ho.lt _ e.symm).1; omega
  have hz3 : ItBox w3 (w.heap.size + 1) 0 [] none 0 0 none 0 0 0 := hk3.heap hz fun e => by have := (ho.lt _ e.symm).1; omega
  have hks : Keeps (fun j => j ≠ w.heap.size) w3 (w3.setCell ⟨w.heap.size, 2, none⟩ (.slice (some ⟨g, 0, none⟩) (pre.length + 1) cap)) := (Keeps.refl _ w3).setCell (.inr fun h => h rfl) _
  have hl : (pre ++ [q]).length = pre.length + 1 := List.length_append
  refine ⟨hx3, ?_, fun k => O k ∨ (A.heap.size ≤ k ∧ k < w3.heap.size), ?_, some ⟨g, 0, none⟩, cap, ?_, hks.heap hz3 (by omega), ?_, ?_, ?_⟩
  · refine (hk3.mono ?_).setCell (.inr ?_) _
    · rintro k hkA h e
      have h0 := (hO k (hown k e.symm)).1
      rcases h with h | h | h
      · have := (hDt k h).2; omega
      · exact h
      · exact h.2 (hown k e.symm)
    · rintro (h | h | h)
      · have h' := (hDt _ h).1; change w.heap.size + 2 ≤ w.heap.size at h'; omega
      · exact h
      · have h' := h.1; change B ≤ w.heap.size at h'; omega
  · rintro k (h | h)
    · exact ⟨by simp [World.setCell]; exact Nat.lt_of_lt_of_le (hO k h).2 hk3.size, .inl h⟩
    · exact ⟨by simp [World.setCell]; exact h.2, .inr h.1⟩
  · rw [hl]; exact hx3.set2 _ _ _
  · rw [hl, List.map_append, List.map_singleton, show pairAt ss q = ((pairAt ss q).1, (pairAt ss q).2) from rfl, fcells_snoc]
    exact owns_kept (S := fun j => j ≠ w.heap.size) h3 hks fun g hg => by have := (h3.lt g hg).1; omega
  · intro g' hg'
    have e' : g' = g := by simp [Value.ownBlock] at hg'; exact hg'.symm
    subst e'
    rcases hat with e | e
    · exact .inl (hown _ e)
    · refine .inr ⟨?_, hlt⟩
      rw [e]
      simp
      have := hk.size
      omega
  · exact (hB.trans (hk3.below hB.size fun j hj e => by have := (ho.lt j e.symm).1; omega)).setCell (p := ⟨w.heap.size, 2, none⟩) (Nat.le_refl _) _
theorem FP.end_ {w W : World} {x : Int} {ss : List (List UInt8)} {O : Nat → Prop} {D : Nat} (h : FP w x ss O (evens ss.length) W) (he : ss.length % 2 = 0) (hs : ∀ s ∈ ss, s.length ≤ 1000000) (hD : w.heap.size + 4 ≤ D) (hDO : ∀ k, O k → D < k) (hd : W.heap[D]? = some (.deferred (some []))) :
    ∃ a n c, ItBox W w.heap.size 2 [] a n c none 0 0 x ∧ ItBox W (w.heap.size + 1) 0 [] none 0 0 none 0 0 0 ∧ (stIt W (w.heap.size + 1) 2 [] a n c none 0 0 x).heap[D]? = some (.deferred (some [])) ∧
      n = (Dp.pairsS ss).length ∧ ItBox ((stIt W (w.heap.size + 1) 2 [] a n c none 0 0 x).putObj D (.deferred none)) (w.heap.size + 1) 2 [] a n c none 0 0 x ∧ Fds ((stIt W (w.heap.size + 1) 2 [] a n c none 0 0 x).putObj D (.deferred none)) a c (Dp.pairsS ss) ∧ (∀ b off, a = some ⟨b, off, none⟩ → w.heap.size ≤ b) ∧ Below w.heap.size w ((stIt W (w.heap.size + 1) 2 [] a n c none 0 0 x).putObj D (.deferred none)) := by
  obtain ⟨a, c, h1, h2, h3, h4, h5⟩ := h
  rw [pairs_evens ss he] at h3
  have hn : (evens ss.length).length = (Dp.pairsS ss).length := by rw [← pairs_evens ss he, List.length_map]
  rw [hn] at h1 h3 h4
  have hk : Keeps (fun j => j ≠ w.heap.size + 1) W (stIt W (w.heap.size + 1) 2 [] a (Dp.pairsS ss).length c none 0 0 x) := (Keeps.refl _ W).stIt (.inr fun h => h rfl) 2 [] a (Dp.pairsS ss).length c none 0 0 x
  have hk2 : Keeps (fun k => k ≠ D) (stIt W (w.heap.size + 1) 2 [] a (Dp.pairsS ss).length c none 0 0 x) ((stIt W (w.heap.size + 1) 2 [] a (Dp.pairsS ss).length c none 0 0 x).putObj D (.deferred none)) := (Keeps.refl _ _).putObj (fun h => h rfl) _
  have hk3 : Keeps (fun j => j ≠ w.heap.size + 1 ∧ j ≠ D) W ((stIt W (w.heap.size + 1) 2 [] a (Dp.pairsS ss).length c none 0 0 x).putObj D (.deferred none)) := (hk.mono fun _ _ h => h.1).trans (hk2.mono fun _ _ h => h.2)
  have h6 := owns_kept (S := fun j => j ≠ w.heap.size + 1 ∧ j ≠ D) h3 hk3 fun g hg => ⟨by have := (h3.lt g hg).1; omega, by have := hDO g (h4 g hg); omega⟩
  have hp : ∀ p ∈ Dp.pairsS ss, p.1.length ≤ 9223372036854775807 ∧ p.2.length ≤ 9223372036854775807 := by
    have : ∀ (l : List (List UInt8)), (∀ s ∈ l, s.length ≤ 1000000) → ∀ p ∈ Dp.pairsS l, p.1.length ≤ 1000000 ∧ p.2.length ≤ 1000000 := by
      intro l
      induction l using Dp.pairsS.induct with
      | case1 a b l ih =>
        intro hl p hp
        rw [Dp.pairsS] at hp
        rcases List.mem_cons.1 hp with rfl | hp
        · exact ⟨hl _ (by simp), hl _ (by simp)⟩
        · exact ih (fun s h => hl s (by simp [h])) p hp
      | case2 l h =>
        intro _ p hp
        rw [Dp.pairsS.eq_2 _ h] at hp
        cases hp
    intro p h
    have := this ss hs p h
    omega
  obtain ⟨a', c', e, hw, -⟩ := fds_of_row h6 hp
  injection e with e1 e2 e3
  subst e1 e3
  refine ⟨a, _, c, h1, h2, hk.heap hd (by omega), rfl, hk2.heap (h2.store 2 [] a (Dp.pairsS ss).length c none 0 0 x) (by omega), hw, ?_, ?_⟩
  · rintro b off rfl
    rcases h3.2 with ⟨e, -⟩ | ⟨g, c2, cur, e, hg, -⟩
    · injection e with e; cases e
    · injection e with e; cases e; omega
  exact (below_stIt h5 (by omega) 2 [] a (Dp.pairsS ss).length c none 0 0 x).trans (hk2.below (below_stIt h5 (by omega) 2 [] a (Dp.pairsS ss).length c none 0 0 x).size fun k hk => by omega)
theorem FB.later {w W W' : World} {k x : Int} {s : List UInt8} (h : FB w k x s W) (hb : Below W.heap.size W W') : FB w k x s W' := ⟨h.1.later hb, h.2.1.later hb, h.2.2.trans (hb.mono h.2.2.size)⟩

set_option maxRecDepth 100000 in
set_option maxHeartbeats 16000000 in
theorem filled_2 (x : Int) (a : Option Addr) (cap : Nat) (ss : List (List UInt8)) (w : World) (he : ss.length % 2 = 0) (hl : Rps w a cap ss) (hn : ss.length ≤ 1000000) :
    CallsIn Fence.wide 0 Tryz.prog 33 #[itv 2 [] none 0 0 none 0 0 x, .slice a ss.length cap] w (IOut (some ⟨2, [], Dp.pairsS ss, [], x⟩) w) := by
  have hfb := fb_new w 2 x
  unfold itc at hfb
  unfold itv
  obtain ⟨iF, hiF, hiF0, hiF1, hiF2⟩ := info_parts dp_infoF
  obtain ⟨c0, -⟩ := hfb.1.at
  obtain ⟨b, off, hb⟩ : ∃ b off, ss.length = 0 ∨ (a = some ⟨b, off, none⟩ ∧ b < w.heap.size ∧ ∀ j, j < ss.length → ∃ k n a3 l3 c3,
    w.cell? ⟨b, off + j * 4, none⟩ = some (.int .i64 k) ∧ w.cell? ⟨b, off + j * 4 + 1, none⟩ = some (.string ⟨(ss.getD j []).toArray⟩) ∧ w.cell? ⟨b, off + j * 4 + 2, none⟩ = some (.int .i64 n) ∧ w.cell? ⟨b, off + j * 4 + 3, none⟩ = some (.slice a3 l3 c3)) := by
    by_cases h0 : ss.length = 0
    · exact ⟨0, 0, .inl h0⟩
    · obtain ⟨b, off, h⟩ := hl.get (by omega)
      exact ⟨b, off, .inr h⟩
  have HBq := Lib.hid hb
  have e1 : Int.tmod (ss.length : Int) 2 = 0 := by rw [Int.tmod_eq_emod_of_nonneg (by omega)]; omega
  have e2 : (ss.length : Int) % 2 = 0 := by omega
  have hch : CallsIn Fence.wide 0 Tryz.prog 52 #[.slice a ss.length cap, .int .i64 2] ((w.alloc (.cells #[.int .i64 2, .string ⟨#[]⟩, .slice none 0 0, .slice none 0 0, .int .i64 x] 25)).alloc (.cells #[.int .i64 0, .string ⟨#[]⟩, .slice none 0 0, .slice none 0 0, .int .i64 0] 25)) fun e w' =>
      e = .returned (.func (.func 75) #[] #[.pointer (some ⟨w.heap.size + 2, 0, none⟩), .pointer (some ⟨w.heap.size + 3, 0, none⟩)]) ∧ FB w 2 x [] w' ∧ Boxed w' (w.heap.size + 2) 43 (.slice a ss.length cap) ∧ Boxed w' (w.heap.size + 3) 3 (.int .i64 2) ∧ w'.heap.size = w.heap.size + 4 := by
    refine ((callsIn_wide (n := 0)).2 (chunk_mk a ss.length cap _)).mono ?_
    rintro e w' ⟨rfl, rfl⟩
    have hs0 : ((w.alloc (.cells #[.int .i64 2, .string ⟨#[]⟩, .slice none 0 0, .slice none 0 0, .int .i64 x] 25)).alloc (.cells #[.int .i64 0, .string ⟨#[]⟩, .slice none 0 0, .slice none 0 0, .int .i64 0] 25)).heap.size = w.heap.size + 2 := by simp
    have hfb' : FB w 2 x [] ((w.alloc (.cells #[.int .i64 2, .string ⟨#[]⟩, .slice none 0 0, .slice none 0 0, .int .i64 x] 25)).alloc (.cells #[.int .i64 0, .string ⟨#[]⟩, .slice none 0 0, .slice none 0 0, .int .i64 0] 25)) := hfb
    generalize (w.alloc (.cells #[.int .i64 2, .string ⟨#[]⟩, .slice none 0 0, .slice none 0 0, .int .i64 x] 25)).alloc (.cells #[.int .i64 0, .string ⟨#[]⟩, .slice none 0 0, .slice none 0 0, .int .i64 0] 25) = W0 at hs0 hfb' ⊢
    have k1 := Boxed.new W0 43 (.slice a ss.length cap)
    have k2 := Boxed.new (W0.alloc (.cells #[.slice a ss.length cap] 43)) 3 (.int .i64 2)
    rw [World.size_alloc, hs0] at k2
    rw [hs0] at k1
    exact ⟨by rw [hs0], hfb'.later (((Below.refl _ W0).alloc (Nat.le_refl _) _).alloc (by simp) _), k1.alloc _, k2, by simp; omega⟩
  have HCh := Lib.hid hch
  have hcc := hl.1
  have hcm := hl.2.1
  have HS := Lib.hid hl.2.2.1
  clear hfb hb hch hl
  refine callsIn_of_wp_marks Tryz.func33 rfl trivial ?_ rfl
  simp only [Tryz.ntmps33, List.size_toArray, List.length_cons, List.length_nil, Nat.reduceAdd, Nat.reduceSub, Array.replicate_succ, Array.replicate_zero, List.push_toArray, List.append_toArray, List.nil_append, List.cons_append]
  gi_wp2
  refine ⟨trivial, rfl, HCh.out.mono ?_⟩
  rintro e w2 ⟨rfl, hfb2, hbx1, hbx2, hs2⟩
  obtain ⟨Dt, hDt⟩ : ∃ Dt : Nat → Prop, Dt = fun k => k = w.heap.size + 2 ∨ k = w.heap.size + 3 := ⟨_, rfl⟩
  have hseq := chunk_seq (w.heap.size + 2) (w.heap.size + 3) b off ss.length cap a w2 hbx1 hbx2 hn hcc hcm he (HBq.out.imp id fun h => h.1) Dt (fun _ => False) (by rw [hDt]; exact .inl rfl) (by rw [hDt]; exact .inr rfl)
  have hDt2 : ∀ k, Dt k → w.heap.size + 2 ≤ k ∧ k < w2.heap.size := by rw [hDt]; rintro k (h | h) <;> omega
  have HSeq := Lib.hid hseq
  have HFB := Lib.hid hfb2
  have HEv := Lib.hid he
  clear hDt hseq hfb2 hbx1 hbx2 c0 HCh e1 e2 he
  gi_wp2
  refine wpIn_rangeB (gf := 75) (lb := #[.pointer (some ⟨w.heap.size + 2, 0, none⟩), .pointer (some ⟨w.heap.size + 3, 0, none⟩)]) rfl (enters_of Tryz.func75 (by kernel_rfl) rfl) HSeq.out (Below.refl _ _) (fun k h => (hDt2 k h).2) (fun k h => h.elim) (fun _ => rfl)
    (FP w x ss) (fun _ _ _ _ => False) (FP.abides (by omega)) (fun _ _ _ _ _ h _ => h) (fun _ _ _ _ _ h => h) ⟨none, 0, HFB.out.1, HFB.out.2.1, World.ownsRow_nil _ _ _ _, by simp [Value.ownBlock], HFB.out.2.2⟩
    (fun _ q a' _ => ∃ u0 u3 u7 u8 u9 u10 u11 u12 u13 u14 u15 u16 u17 u18 u19 u20 u21 u22 u23 u24 u25 u26 u27 u28 u29 u30 u31 u32 u33 u34 u35 u36 u37 u38 u39 u40 u41 u42 u43 u44 u45 u46 u47 u48 u49 u50 u51 u52 u53 u54 u55 u56 u57 u58 u59 u60 u61 u62 u63 u64 : Value, a' = { tmps := #[u0, .slice a ss.length cap, .pointer (some ⟨w.heap.size, 0, none⟩), u3, .pointer (some ⟨w.heap.size + 1, 0, none⟩), .bool false, .slice (some ⟨b, off + q * 4, none⟩) 2 2, u7, u8, u9, u10, u11, u12, u13, u14, u15, u16, u17, u18, u19, u20, u21, u22, u23, u24, u25, u26, u27, u28, u29, u30, u31, u32, u33, u34, u35, u36, u37, u38, u39, u40, u41, u42, u43, u44, u45, u46, u47, u48, u49, u50, u51, u52, u53, u54, u55, u56, u57, u58, u59, u60, u61, u62, u63, u64], defers := [] })
    (fun O q a' A C h hk => h) ?assign ?body ?done ?stop
  case assign =>
    intro O pre q A K hO hA hi hK
    have HK := Lib.hid hK
    have HI := Lib.hid hi
    clear hK hi
    unfold encK
    gi_wp2
    exact HK.out _ _ (Keeps.refl _ _) HI.out ⟨_, _, _, _, _, _, _, _, _, _, _, _, _, _, _, _, _, _, _, _, _, _, _, _, _, _, _, _, _, _, _, _, _, _, _, _, _, _, _, _, _, _, _, _, _, _, _, _, _, _, _, _, _, _, _, _, _, _, _, _, rfl⟩
  case body =>
    rintro O pre q a' A hO hA ⟨r, hr⟩ ⟨a2, c2, hx, hz, ho, hown, hB⟩ ⟨u0, u3, u7, u8, u9, u10, u11, u12, u13, u14, u15, u16, u17, u18, u19, u20, u21, u22, u23, u24, u25, u26, u27, u28, u29, u30, u31, u32, u33, u34, u35, u36, u37, u38, u39, u40, u41, u42, u43, u44, u45, u46, u47, u48, u49, u50, u51, u52, u53, u54, u55, u56, u57, u58, u59, u60, u61, u62, u63, u64, rfl⟩ hlen hT
    obtain ⟨-, hbl, hcc2⟩ := HBq.out.resolve_left (by omega)
    obtain ⟨-, -, -, -, -, -, g1, -, -⟩ := hcc2 q (by omega)
    obtain ⟨-, -, -, -, -, -, g2, -, -⟩ := hcc2 (q + 1) (by omega)
    rw [show off + (q + 1) * 4 + 1 = off + q * 4 + 4 + 1 by omega] at g2
    obtain ⟨x1, hx1⟩ : ∃ x1, ss.getD q [] = x1 := ⟨_, rfl⟩
    obtain ⟨x2, hx2⟩ : ∃ x2, ss.getD (q + 1) [] = x2 := ⟨_, rfl⟩
    rw [hx1] at g1
    rw [hx2] at g2
    replace hx1 : (pairAt ss q).1 = x1 := hx1
    replace hx2 : (pairAt ss q).2 = x2 := hx2
    have HS0 : A.drew.cell? ⟨w.heap.size, 2, none⟩ = some (.slice a2 pre.length c2) ∧ A.drew.cell? ⟨b, off + q * 4 + 1, none⟩ = some (.string ⟨x1.toArray⟩) ∧ A.drew.cell? ⟨b, off + q * 4 + 4 + 1, none⟩ = some (.string ⟨x2.toArray⟩) :=
      ⟨(World.cell?_drew _ _).trans hx.at.2.2.1, (World.cell?_drew _ _).trans ((hB.cell (p := ⟨b, off + q * 4 + 1, none⟩) hbl).trans g1), (World.cell?_drew _ _).trans ((hB.cell (p := ⟨b, off + q * 4 + 4 + 1, none⟩) hbl).trans g2)⟩
    have hnb : some b ≠ (Value.slice a2 pre.length c2).ownBlock := fun e => by have := (ho.lt _ e.symm).1; omega
    clear g1 g2 hcc2
    refine wpIn_block ?_
    dsimp only
    refine wpIn_region_L (S := (fun W => W.cell? ⟨w.heap.size, 2, none⟩ = some (.slice a2 pre.length c2) ∧ W.cell? ⟨b, off + q * 4 + 1, none⟩ = some (.string ⟨x1.toArray⟩) ∧ W.cell? ⟨b, off + q * 4 + 4 + 1, none⟩ = some (.string ⟨x2.toArray⟩))) (f := 14) (by kernel_rfl) dp_block_no (by kernel_rfl) ?_
    refine wpAnyL_take (i := 0) (some 33) (v := .pointer (some ⟨w.heap.size, 2, none⟩)) rfl rfl (by kernel_rfl) (by kernel_rfl) (by kernel_rfl) (by kernel_rfl) (fun _ _ _ h => h) (by rfl) (fun W hS => ?_) HS0 ?_
    · obtain ⟨m0, m1, m2⟩ := hS
      go_simp
    try simp only [Act.put, List.setIfInBounds_toArray, List.set_cons_zero, List.set_cons_succ]
    refine wpAnyL_take (i := 1) (some 34) (v := .slice a2 pre.length c2) rfl rfl (by kernel_rfl) (by kernel_rfl) (by kernel_rfl) (by kernel_rfl) (fun _ _ _ h => h) (by rfl) (fun W hS => ?_) HS0 ?_
    · obtain ⟨m0, m1, m2⟩ := hS
      go_simp
    try simp only [Act.put, List.setIfInBounds_toArray, List.set_cons_zero, List.set_cons_succ]
    refine wpAnyL_take (i := 2) (some 35) (v := .slice (some ⟨b, off + q * 4, none⟩) 2 2) rfl rfl (by kernel_rfl) (by kernel_rfl) (by kernel_rfl) (by kernel_rfl) (fun _ _ _ h => h) (by rfl) (fun W hS => ?_) HS0 ?_
    · obtain ⟨m0, m1, m2⟩ := hS
      go_simp
    try simp only [Act.put, List.setIfInBounds_toArray, List.set_cons_zero, List.set_cons_succ]
    refine wpAnyL_take (i := 3) (some 36) (v := .pointer (some ⟨b, off + q * 4, none⟩)) rfl rfl (by kernel_rfl) (by kernel_rfl) (by kernel_rfl) (by kernel_rfl) (fun _ _ _ h => h) (by rfl) (fun W hS => ?_) HS0 ?_
    · obtain ⟨m0, m1, m2⟩ := hS
      go_simp
    try simp only [Act.put, List.setIfInBounds_toArray, List.set_cons_zero, List.set_cons_succ]
    refine wpAnyL_take (i := 4) (some 37) (v := .pointer (some ⟨b, off + q * 4 + 1, none⟩)) rfl rfl (by kernel_rfl) (by kernel_rfl) (by kernel_rfl) (by kernel_rfl) (fun _ _ _ h => h) (by rfl) (fun W hS => ?_) HS0 ?_
    · obtain ⟨m0, m1, m2⟩ := hS
      go_simp
    try simp only [Act.put, List.setIfInBounds_toArray, List.set_cons_zero, List.set_cons_succ]
    refine wpAnyL_take (i := 5) (some 38) (v := .string ⟨x1.toArray⟩) rfl rfl (by kernel_rfl) (by kernel_rfl) (by kernel_rfl) (by kernel_rfl) (fun _ _ _ h => h) (by rfl) (fun W hS => ?_) HS0 ?_
    · obtain ⟨m0, m1, m2⟩ := hS
      go_simp
    try simp only [Act.put, List.setIfInBounds_toArray, List.set_cons_zero, List.set_cons_succ]
    refine wpAnyL_take (i := 6) (some 39) (v := .slice (some ⟨b, off + q * 4, none⟩) 2 2) rfl rfl (by kernel_rfl) (by kernel_rfl) (by kernel_rfl) (by kernel_rfl) (fun _ _ _ h => h) (by rfl) (fun W hS => ?_) HS0 ?_
    · obtain ⟨m0, m1, m2⟩ := hS
      go_simp
    try simp only [Act.put, List.setIfInBounds_toArray, List.set_cons_zero, List.set_cons_succ]
    refine wpAnyL_take (i := 7) (some 40) (v := .pointer (some ⟨b, off + q * 4 + 4, none⟩)) rfl rfl (by kernel_rfl) (by kernel_rfl) (by kernel_rfl) (by kernel_rfl) (fun _ _ _ h => h) (by rfl) (fun W hS => ?_) HS0 ?_
    · obtain ⟨m0, m1, m2⟩ := hS
      go_simp
    try simp only [Act.put, List.setIfInBounds_toArray, List.set_cons_zero, List.set_cons_succ]
    refine wpAnyL_take (i := 8) (some 41) (v := .pointer (some ⟨b, off + q * 4 + 4 + 1, none⟩)) rfl rfl (by kernel_rfl) (by kernel_rfl) (by kernel_rfl) (by kernel_rfl) (fun _ _ _ h => h) (by rfl) (fun W hS => ?_) HS0 ?_
    · obtain ⟨m0, m1, m2⟩ := hS
      go_simp
    try simp only [Act.put, List.setIfInBounds_toArray, List.set_cons_zero, List.set_cons_succ]
    refine wpAnyL_take (i := 9) (some 42) (v := .string ⟨x2.toArray⟩) rfl rfl (by kernel_rfl) (by kernel_rfl) (by kernel_rfl) (by kernel_rfl) (fun _ _ _ h => h) (by rfl) (fun W hS => ?_) HS0 ?_
    · obtain ⟨m0, m1, m2⟩ := hS
      go_simp
    try simp only [Act.put, List.setIfInBounds_toArray, List.set_cons_zero, List.set_cons_succ]
    refine wpAnyL_take (i := 10) (some 43) (v := .agg #[.string ⟨x1.toArray⟩, .string ⟨x2.toArray⟩]) rfl rfl (by kernel_rfl) (by kernel_rfl) (by kernel_rfl) (by kernel_rfl) (fun _ _ _ h => h) (by rfl) (fun W hS => ?_) HS0 ?_
    · obtain ⟨m0, m1, m2⟩ := hS
      go_simp
    try simp only [Act.put, List.setIfInBounds_toArray, List.set_cons_zero, List.set_cons_succ]
    refine wpAnyL_one (j := 11) (by kernel_rfl) rfl (by rfl) (fun K hK => ?_)
    refine oper_wp_val (v := .slice (some ⟨A.heap.size, 0, none⟩) 1 1) (w' := A.drew.alloc (.cells #[.string ⟨x1.toArray⟩, .string ⟨x2.toArray⟩] 42)) (by go_simp) ?_
    have hk2 : Keeps (fun _ => True) A A.drew := (Keeps.refl (fun _ => True) A).drew
    have HO2 := Lib.hid (owns_kept (S := fun _ => True) ho hk2 fun _ _ => trivial)
    have HS3 := cpSa (o := .cells #[.string ⟨x1.toArray⟩, .string ⟨x2.toArray⟩] 42) HS0
    refine hK _ _ (fun _ => HS3) ?_
    clear hK K
    try simp only [Act.put, List.setIfInBounds_toArray, List.set_cons_zero, List.set_cons_succ]
    refine wpAnyL_one (j := 12) (by kernel_rfl) rfl (by rfl) (fun K hK => ?_)
    refine wp_append_lies _ (.tmp 34) (.tmp 44) 22 rfl (w.heap.size + 2) 42 iF _ 2 32 Tryz.underlying22 hiF hiF0 hiF1 hiF2 rfl (by decide) (.slice a2 pre.length c2) pre.length (fcells (pre.map (pairAt ss))) rfl (HO2.out.alloc _) ⟨A.heap.size, 0, none⟩ 1 1 [.string ⟨x1.toArray⟩, .string ⟨x2.toArray⟩] rfl rfl (two_news A.drew _ _ _) (two_one _ _) (by decide) (by unfold maxLen; omega) (by omega) (by simp; omega) _ rfl ?_
    intro g cap3 w3 hown3 hgrow hat hlt3
    have hE := fun aa => FP.round (w := w) (q := q) (aa := aa) (Ix := fun _ _ _ _ => False) (Dt := Dt) hx hz ho hown hB hO (by omega) hDt2 hk2 (by rw [hx1, hx2]; exact hown3) hgrow hat hlt3
    have HS4 := And.intro (hE { tmps := #[], defers := [] }).1.at.2.2.1 (And.intro ((hgrow.cell_far ⟨b, off + q * 4 + 1, none⟩ (World.block_lt_of_cell? _ _ HS3.2.1) hnb).trans HS3.2.1) ((hgrow.cell_far ⟨b, off + q * 4 + 4 + 1, none⟩ (World.block_lt_of_cell? _ _ HS3.2.2) hnb).trans HS3.2.2))
    have f4 := (hE { tmps := #[], defers := [] }).1.free.2.2.1
    have HE := Lib.hid (fun aa => (hE aa).2)
    clear hown3 hgrow hat hlt3 hE
    refine hK _ _ (fun _ => HS4) ?_
    clear hK K
    try simp only [Act.put, List.setIfInBounds_toArray, List.set_cons_zero, List.set_cons_succ]
    refine wpAnyL_take (i := 13) (some 46) (v := .pointer (some ⟨w.heap.size, 2, none⟩)) rfl rfl (by kernel_rfl) (by kernel_rfl) (by kernel_rfl) (by kernel_rfl) (fun _ _ _ h => h) (by rfl) (fun W hS => ?_) HS4 ?_
    · obtain ⟨m0, m1, m2⟩ := hS
      go_simp
    try simp only [Act.put, List.setIfInBounds_toArray, List.set_cons_zero, List.set_cons_succ]
    have g00 := HS4.1
    refine wpAnyL_one (j := 14) (by kernel_rfl) rfl (by rfl) (fun K hK => ?_)
    go_simp
    refine hK _ _ (fun h => (h rfl).elim) ?_
    clear hK K
    try simp only [Act.put, List.setIfInBounds_toArray, List.set_cons_zero, List.set_cons_succ]
    refine wpAnyL_done (by kernel_rfl) ?_ _
    exact HE.out { tmps := #[], defers := [] }
  case done =>
    rintro O D xs A hD hDs hO - rfl hFP hDd
    obtain ⟨a2, n2, c2, hx, hz, hd2, hnE, hE, hFds, hfar, hB⟩ := hFP.end_ HEv.out HS.out (by omega) (fun k hk => (hO k hk).1) hDd
    obtain ⟨b0, b1, b2, b3, b4⟩ := hx.at
    obtain ⟨z0, z1, z2, z3, z4⟩ := hz.at
    obtain ⟨f0, f1, f2, f3, f4⟩ := hz.free
    have HEND := Lib.hid (And.intro hd2 (And.intro hE (And.intro hFds (And.intro hB (And.intro hnE hfar)))))
    clear hx hz hd2 hE hFds hB hFP hnE hfar
    gi_wp2
    refine ⟨by simp, .inl ⟨_, _, rfl, run_takeDeferred HEND.out.1, ?_⟩⟩
    refine ⟨_, results_cellt rfl rfl (loadVarI HEND.out.2.1), HEND.out.2.2.2.1, a2, c2, none, 0, ?_, HEND.out.2.2.1, wds_nil _, fun _ => rfl, HEND.out.2.2.2.2.2, fun _ _ h => (by cases h)⟩
    rw [HEND.out.2.2.2.2.1]
    rfl
  case stop =>
    rintro O D c pre A _ _ _ _ _ h _
    exact h.elim
end Go.Proofs.YtbkhnnjjpelfcaaGreatDoor
namespace Go.Proofs.YtbkhnnjjpelfcaaGreatDoor
open Go.RowKit Go.Shelf
attribute [local go_sem] Oper.semAt_some
set_option linter.unusedVariables false
set_option linter.unusedSimpArgs false

theorem filled_any (k x : Int) (a : Option Addr) (cap : Nat) (ss : List (List UInt8)) (w : World) (hl : Rps w a cap ss) (hn : ss.length ≤ 1000000) :
    Calls Tryz.prog 33 #[itv k [] none 0 0 none 0 0 x, .slice a ss.length cap] w (IOut (Dp.filledS k x ss) w) := by
  refine (callsIn_wide (n := 0)).1 ?_
  unfold Dp.filledS
  by_cases h1 : k = 1
  · subst h1
    rw [if_pos rfl]
    by_cases hs : ss.length = 1
    · rw [if_pos hs]
      obtain ⟨b, off, rfl, hb, hc⟩ := hl.get (by omega)
      obtain ⟨-, -, -, -, -, -, g1, -, -⟩ := hc 0 (by omega)
      rw [show off + 0 * 4 + 1 = off + 1 by omega] at g1
      have := filled_1 x (ss.getD 0 []) b off cap w hb g1 (by have := hl.1; omega)
      rw [hs]
      exact this
    · rw [if_neg hs]
      exact filled_1no x a _ cap w hs
  rw [if_neg h1]
  by_cases h2 : k = 2
  · subst h2
    rw [if_pos rfl]
    by_cases hs : ss.length % 2 = 0
    · rw [if_pos hs]
      exact filled_2 x a cap ss w hs hl hn
    · rw [if_neg hs]
      exact filled_2no x a _ cap w (by omega)
  rw [if_neg h2]
  by_cases h3 : k = 3 ∨ k = 4
  · rw [if_pos h3]
    exact filled_l k x a cap ss w h3 hl hn
  · rw [if_neg h3]
    exact filled_no k x a _ cap w h1 h2 (fun h => h3 (.inl h)) (fun h => h3 (.inr h))

/-- words behind the first two. -/
theorem Rps.drop2 {w : World} {b off cap : Nat} {ss : List (List UInt8)} (h : Rps w (some ⟨b, off, none⟩) cap ss) (h2 : 2 ≤ ss.length) : Rps w (some (if cap = 2 then ⟨b, off, none⟩ else ⟨b, off + 8, none⟩)) (cap - 2) (ss.drop 2) := by
  obtain ⟨h0, h1, hs, h3⟩ := h
  refine ⟨by rw [List.length_drop]; omega, by omega, fun s hm => hs s (List.mem_of_mem_drop hm), ?_⟩
  by_cases hc : cap = 2
  · refine .inl (List.drop_eq_nil_of_le (by omega))
  · right
    obtain ⟨b', off', e, hlt, hcell⟩ := h3.resolve_left (by rintro rfl; simp at h2)
    cases e
    refine ⟨b, off + 8, by rw [if_neg hc], hlt, fun j hj => ?_⟩
    rw [List.length_drop] at hj
    obtain ⟨k, n, a3, l3, c3, g0, g1, g2, g3⟩ := hcell (j + 2) (by omega)
    have e : (ss.drop 2).getD j [] = ss.getD (j + 2) [] := by simp [List.getD, Nat.add_comm]
    rw [e]
    refine ⟨k, n, a3, l3, c3, ?_, ?_, ?_, ?_⟩
    · rw [show off + 8 + j * 4 = off + (j + 2) * 4 by omega]; exact g0
    · rw [show off + 8 + j * 4 + 1 = off + (j + 2) * 4 + 1 by omega]; exact g1
    · rw [show off + 8 + j * 4 + 2 = off + (j + 2) * 4 + 2 by omega]; exact g2
    · rw [show off + 8 + j * 4 + 3 = off + (j + 2) * 4 + 3 by omega]; exact g3

theorem Fds.far {w W : World} {B : Nat} {a : Option Addr} {c : Nat} {fs : List (List UInt8 × List UInt8)} (h : Fds w a c fs) (hk : Keeps (fun j => j ≠ B) w W) (hf : ∀ b off, a = some ⟨b, off, none⟩ → B < b) : Fds W a c fs :=
  h.keep hk.size fun b off e hlt => hk.block b hlt (by have := hf b off e; omega)
theorem Wds.far {w W : World} {B : Nat} {a : Option Addr} {c : Nat} {ws : List (List UInt8)} (h : Wds w a c ws) (hk : Keeps (fun j => j ≠ B) w W) (hf : ∀ b off, a = some ⟨b, off, none⟩ → B < b) : Wds W a c ws :=
  h.keep hk.size fun b off e hlt => hk.block b hlt (by have := hf b off e; omega)

set_option maxRecDepth 100000 in
set_option maxHeartbeats 8000000 in
theorem read_few (a : Option Addr) (n cap : Nat) (w : World) (h : n < 2) : Calls Tryz.prog 15 #[.slice a n cap] w (IOut none w) := by
  have hb := ItBox.new w 0 [] none 0 0 none 0 0 0
  have hB : Below w.heap.size w (w.alloc (itc 0 [] none 0 0 none 0 0 0)) := (Below.refl _ w).alloc (Nat.le_refl _) _
  unfold itc at hb hB
  have HE := Lib.hid (And.intro hb hB)
  have hnI : (n : Int) < 2 := by omega
  clear hb hB
  go_enter Tryz.func15, Tryz.ntmps15
  go_wp2
  exact bodyPost_ret (results_cellt rfl rfl (loadVarI HE.out.1)) rfl ⟨HE.out.2, rfl⟩

set_option maxRecDepth 100000 in
set_option maxHeartbeats 4000000 in
theorem read_many (b off cap : Nat) (ss : List (List UInt8)) (w : World) (h2 : 2 ≤ ss.length) (hl : Rps w (some ⟨b, off, none⟩) cap ss) (hn : ss.length ≤ 1000000) : Calls Tryz.prog 15 #[.slice (some ⟨b, off, none⟩) ss.length cap] w (IOut (Dp.readS ss) w) := by
  have hb := ItBox.new w 0 [] none 0 0 none 0 0 0
  have hB : Below w.heap.size w (w.alloc (itc 0 [] none 0 0 none 0 0 0)) := (Below.refl _ w).alloc (Nat.le_refl _) _
  have hd := (hl.later hB).drop2 h2
  obtain ⟨b', off', e', hlt, hc⟩ := hl.get (by omega)
  cases e'
  obtain ⟨-, -, -, -, -, -, g1, -, -⟩ := hc 0 (by omega)
  obtain ⟨-, -, -, -, -, -, g2, -, -⟩ := hc 1 (by omega)
  rw [show off + 0 * 4 + 1 = off + 1 by omega] at g1
  rw [show off + 1 * 4 + 1 = off + 4 + 1 by omega] at g2
  have d1 := (hB.cell (p := ⟨b, off + 1, none⟩) hlt).trans g1
  have d2 := (hB.cell (p := ⟨b, off + 4 + 1, none⟩) hlt).trans g2
  have hs : ∀ j, (ss.getD j []).length ≤ 1000000 := fun j => by
    by_cases hj : j < ss.length
    · rw [getD_eq hj]; exact hl.2.2.1 _ (List.getElem_mem hj)
    · simp [List.getD, Nat.le_of_not_lt hj]
  have hn0 := fun W => number_any (ss.getD 0 []) W (hs 0)
  have hn1 := fun W => number_any (ss.getD 1 []) W (hs 1)
  have hR : Dp.readS ss = if (Tx.numS (ss.getD 0 [])).2 = true ∧ (Tx.numS (ss.getD 1 [])).2 = true then Dp.filledS (Tx.numS (ss.getD 0 [])).1 (Tx.numS (ss.getD 1 [])).1 (ss.drop 2) else none := by unfold Dp.readS; rw [if_neg (by omega)]
  rw [hR]
  clear hR hs
  have hcc := hl.1
  have hcm := hl.2.1
  have hld : (ss.drop 2).length = ss.length - 2 := List.length_drop
  have hdl : (ss.drop 2).length ≤ 1000000 := by omega
  generalize Tx.numS (ss.getD 0 []) = p0 at *
  generalize Tx.numS (ss.getD 1 []) = p1 at *
  generalize ss.getD 0 [] = x0 at *
  generalize ss.getD 1 [] = x1 at *
  obtain ⟨n0, o0⟩ := p0
  obtain ⟨n1, o1⟩ := p1
  simp only at hn0 hn1 ⊢
  have HN0 := Lib.hid hn0
  have HN1 := Lib.hid hn1
  have hfil := filled_any n0 n1 _ _ _ _ hd hdl
  rw [hld] at hfil
  have HLD := Lib.hid hld
  unfold itc at hb hB hfil d1 d2
  unfold itv at hfil
  have HE := Lib.hid (And.intro hb hB)
  have HFil := Lib.hid hfil
  have hlI : ¬ (ss.length : Int) < 2 := by omega
  have h2I : (2 : Int) ≤ (ss.length : Int) := by omega
  have hclI : (ss.length : Int) ≤ (cap : Int) := by omega
  have hcmI : (cap : Int) ≤ 9223372036854775807 := by omega
  have h0I : (0 : Int) < (ss.length : Int) := by omega
  have h1I : (1 : Int) < (ss.length : Int) := by omega
  obtain ⟨N, hN⟩ : ∃ N, ss.length = N := ⟨_, rfl⟩
  rw [hN] at HFil h2 hcc hlI h2I hclI h0I h1I ⊢
  clear hb hB hn0 hn1 hfil hd hl hc g1 g2 hld hdl hN hn
  cases o0 with
  | false =>
    rw [if_neg (by simp)]
    go_enter Tryz.func15, Tryz.ntmps15
    go_wp2_with fail
    refine (HN0.out _).mono ?_
    rintro e w1 ⟨rfl, rfl⟩
    go_wp2_with fail
    refine (HN1.out _).mono ?_
    rintro e w1 ⟨rfl, rfl⟩
    go_wp2
    exact bodyPost_ret (results_cellt rfl rfl (loadVarI HE.out.1)) rfl ⟨HE.out.2, rfl⟩
  | true =>
  cases o1 with
  | false =>
    rw [if_neg (by simp)]
    go_enter Tryz.func15, Tryz.ntmps15
    go_wp2_with fail
    refine (HN0.out _).mono ?_
    rintro e w1 ⟨rfl, rfl⟩
    go_wp2_with fail
    refine (HN1.out _).mono ?_
    rintro e w1 ⟨rfl, rfl⟩
    go_wp2
    exact bodyPost_ret (results_cellt rfl rfl (loadVarI HE.out.1)) rfl ⟨HE.out.2, rfl⟩
  | true =>
    rw [if_pos ⟨rfl, rfl⟩]
    obtain ⟨o, ho⟩ : ∃ o, Dp.filledS n0 n1 (ss.drop 2) = o := ⟨_, rfl⟩
    rw [ho] at HFil ⊢
    by_cases hc2 : cap = 2
    · subst hc2
      obtain rfl : N = 2 := by omega
      rw [if_pos rfl] at HFil
      simp only [Nat.sub_self] at HFil
      go_enter Tryz.func15, Tryz.ntmps15
      go_wp2_with fail
      refine (HN0.out _).mono ?_
      rintro e w1 ⟨rfl, rfl⟩
      go_wp2_with fail
      refine (HN1.out _).mono ?_
      rintro e w1 ⟨rfl, rfl⟩
      go_wp2_with fail
      refine HFil.out.mono ?_
      have hza : ∀ w2, Below (w.alloc (.cells #[.int .i64 0, .string ⟨#[]⟩, .slice none 0 0, .slice none 0 0, .int .i64 0] 25)).heap.size (w.alloc (.cells #[.int .i64 0, .string ⟨#[]⟩, .slice none 0 0, .slice none 0 0, .int .i64 0] 25)) w2 → ItBox w2 w.heap.size 0 [] none 0 0 none 0 0 0 ∧ Below w.heap.size w w2 := fun w2 hb => ⟨HE.out.1.later hb, HE.out.2.trans (hb.mono HE.out.2.size)⟩
      cases o with
      | none =>
        rintro e w2 ⟨hb, rfl⟩
        obtain ⟨hz, hbw⟩ := hza w2 hb
        obtain ⟨z0, z1, z2, z3, z4⟩ := hz.at
        obtain ⟨f0, f1, f2, f3, f4⟩ := hz.free
        have HZ := Lib.hid (And.intro (hz.store 0 [] none 0 0 none 0 0 0) (below_stIt hbw (Nat.le_refl _) 0 [] none 0 0 none 0 0 0))
        clear hz hbw hb hza HFil
        unfold itv
        go_wp2
        exact bodyPost_ret (results_cellt rfl rfl (loadVarI HZ.out.1)) rfl ⟨HZ.out.2, rfl⟩
      | some i =>
        obtain ⟨k, s, f, l, x⟩ := i
        rintro e w2 ⟨hb, aF, cF, aL, cL, rfl, hF, hL, hn, hfF, hfL⟩
        simp only at hF hL ⊢
        rw [World.size_alloc] at hfF hfL
        obtain ⟨hz, hbw⟩ := hza w2 hb
        obtain ⟨z0, z1, z2, z3, z4⟩ := hz.at
        obtain ⟨f0, f1, f2, f3, f4⟩ := hz.free
        have hk : Keeps (fun j => j ≠ w.heap.size) w2 (stIt w2 w.heap.size k s aF f.length cF aL l.length cL x) := (Keeps.refl _ w2).stIt (.inr fun h => h rfl) k s aF f.length cF aL l.length cL x
        have HZ := Lib.hid (And.intro (hz.store k s aF f.length cF aL l.length cL x) (below_stIt hbw (Nat.le_refl _) k s aF f.length cF aL l.length cL x))
        have HFL := Lib.hid (And.intro (hF.far hk fun b off e => by have := hfF b off e; omega) (hL.far hk fun b off e => by have := hfL b off e; omega))
        have HFF := Lib.hid (And.intro hn (And.intro (fun b off e => by have := hfF b off e; omega : ∀ b off, aF = some ⟨b, off, none⟩ → w.heap.size ≤ b) (fun b off e => by have := hfL b off e; omega : ∀ b off, aL = some ⟨b, off, none⟩ → w.heap.size ≤ b)))
        clear hz hbw hb hza HFil hF hL hn hfF hfL hk
        unfold itv
        go_wp2
        exact bodyPost_ret (results_cellt rfl rfl (loadVarI HZ.out.1)) rfl ⟨HZ.out.2, aF, cF, aL, cL, rfl, HFL.out.1, HFL.out.2, HFF.out.1, HFF.out.2.1, HFF.out.2.2⟩
    · rw [if_neg hc2] at HFil
      go_enter Tryz.func15, Tryz.ntmps15
      go_wp2_with fail
      refine (HN0.out _).mono ?_
      rintro e w1 ⟨rfl, rfl⟩
      go_wp2_with fail
      refine (HN1.out _).mono ?_
      rintro e w1 ⟨rfl, rfl⟩
      go_wp2_with fail
      refine HFil.out.mono ?_
      have hza : ∀ w2, Below (w.alloc (.cells #[.int .i64 0, .string ⟨#[]⟩, .slice none 0 0, .slice none 0 0, .int .i64 0] 25)).heap.size (w.alloc (.cells #[.int .i64 0, .string ⟨#[]⟩, .slice none 0 0, .slice none 0 0, .int .i64 0] 25)) w2 → ItBox w2 w.heap.size 0 [] none 0 0 none 0 0 0 ∧ Below w.heap.size w w2 := fun w2 hb => ⟨HE.out.1.later hb, HE.out.2.trans (hb.mono HE.out.2.size)⟩
      cases o with
      | none =>
        rintro e w2 ⟨hb, rfl⟩
        obtain ⟨hz, hbw⟩ := hza w2 hb
        obtain ⟨z0, z1, z2, z3, z4⟩ := hz.at
        obtain ⟨f0, f1, f2, f3, f4⟩ := hz.free
        have HZ := Lib.hid (And.intro (hz.store 0 [] none 0 0 none 0 0 0) (below_stIt hbw (Nat.le_refl _) 0 [] none 0 0 none 0 0 0))
        clear hz hbw hb hza HFil
        unfold itv
        go_wp2
        exact bodyPost_ret (results_cellt rfl rfl (loadVarI HZ.out.1)) rfl ⟨HZ.out.2, rfl⟩
      | some i =>
        obtain ⟨k, s, f, l, x⟩ := i
        rintro e w2 ⟨hb, aF, cF, aL, cL, rfl, hF, hL, hn, hfF, hfL⟩
        simp only at hF hL ⊢
        rw [World.size_alloc] at hfF hfL
        obtain ⟨hz, hbw⟩ := hza w2 hb
        obtain ⟨z0, z1, z2, z3, z4⟩ := hz.at
        obtain ⟨f0, f1, f2, f3, f4⟩ := hz.free
        have hk : Keeps (fun j => j ≠ w.heap.size) w2 (stIt w2 w.heap.size k s aF f.length cF aL l.length cL x) := (Keeps.refl _ w2).stIt (.inr fun h => h rfl) k s aF f.length cF aL l.length cL x
        have HZ := Lib.hid (And.intro (hz.store k s aF f.length cF aL l.length cL x) (below_stIt hbw (Nat.le_refl _) k s aF f.length cF aL l.length cL x))
        have HFL := Lib.hid (And.intro (hF.far hk fun b off e => by have := hfF b off e; omega) (hL.far hk fun b off e => by have := hfL b off e; omega))
        have HFF := Lib.hid (And.intro hn (And.intro (fun b off e => by have := hfF b off e; omega : ∀ b off, aF = some ⟨b, off, none⟩ → w.heap.size ≤ b) (fun b off e => by have := hfL b off e; omega : ∀ b off, aL = some ⟨b, off, none⟩ → w.heap.size ≤ b)))
        clear hz hbw hb hza HFil hF hL hn hfF hfL hk
        unfold itv
        go_wp2
        exact bodyPost_ret (results_cellt rfl rfl (loadVarI HZ.out.1)) rfl ⟨HZ.out.2, aF, cF, aL, cL, rfl, HFL.out.1, HFL.out.2, HFF.out.1, HFF.out.2.1, HFF.out.2.2⟩

theorem read_any (a : Option Addr) (cap : Nat) (ss : List (List UInt8)) (w : World) (hl : Rps w a cap ss) (hn : ss.length ≤ 1000000) : Calls Tryz.prog 15 #[.slice a ss.length cap] w (IOut (Dp.readS ss) w) := by
  by_cases h2 : ss.length < 2
  · have := read_few a ss.length cap w h2
    rw [show Dp.readS ss = none by unfold Dp.readS; rw [if_pos h2]]
    exact this
  · obtain ⟨b, off, rfl, -⟩ := hl.get (by omega)
    exact read_many b off cap ss w (by omega) hl hn
end Go.Proofs.YtbkhnnjjpelfcaaGreatDoor
