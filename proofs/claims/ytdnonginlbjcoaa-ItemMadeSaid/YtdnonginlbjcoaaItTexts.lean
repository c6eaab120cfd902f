/- The contract of the iterator over all texts of an item. -/
import Derived.Test.YtdnonginlbjcoaaItSeq
namespace Go.Proofs.Ytdnonginlbjcoaa
open Go.RowKit Go.Shelf
attribute [local go_sem] Oper.semAt_some

/-- an item's box. -/
def ItBox (w : World) (B : Nat) (k : Int) (s : List UInt8) (aF : Option Addr) (nF cF : Nat) (aL : Option Addr) (nL cL : Nat) (e : Int) : Prop :=
  w.heap[B]? = some (.cells #[.int .i64 k, .string ⟨s.toArray⟩, .slice aF nF cF, .slice aL nL cL, .int .i64 e] 25 (0, 0))

theorem ItBox.lt {w : World} {B : Nat} {k : Int} {s : List UInt8} {aF : Option Addr} {nF cF : Nat} {aL : Option Addr} {nL cL : Nat} {e : Int} (h : ItBox w B k s aF nF cF aL nL cL e) : B < w.heap.size := (Array.getElem?_eq_some_iff.1 h).1
theorem ItBox.at {w : World} {B : Nat} {k : Int} {s : List UInt8} {aF : Option Addr} {nF cF : Nat} {aL : Option Addr} {nL cL : Nat} {e : Int} (h : ItBox w B k s aF nF cF aL nL cL e) :
    w.cell? ⟨B, 0, none⟩ = some (.int .i64 k) ∧ w.cell? ⟨B, 1, none⟩ = some (.string ⟨s.toArray⟩) ∧ w.cell? ⟨B, 2, none⟩ = some (.slice aF nF cF) ∧ w.cell? ⟨B, 3, none⟩ = some (.slice aL nL cL) ∧ w.cell? ⟨B, 4, none⟩ = some (.int .i64 e) := by
  unfold ItBox at h
  simp [World.cell?, h]
theorem ItBox.new (w : World) (k : Int) (s : List UInt8) (aF : Option Addr) (nF cF : Nat) (aL : Option Addr) (nL cL : Nat) (e : Int) : ItBox (w.alloc (itc k s aF nF cF aL nL cL e)) w.heap.size k s aF nF cF aL nL cL e := World.alloc_heap_new w _
theorem ItBox.later {w w' : World} {B : Nat} {k : Int} {s : List UInt8} {aF : Option Addr} {nF cF : Nat} {aL : Option Addr} {nL cL : Nat} {e : Int} (h : ItBox w B k s aF nF cF aL nL cL e) (hb : Below w.heap.size w w') : ItBox w' B k s aF nF cF aL nL cL e := (hb.block _ h.lt).trans h

namespace It
theorem fieldsS_len (f : List (List UInt8 × List UInt8)) : (fieldsS f).length = 2 * f.length := by
  induction f with
  | nil => rfl
  | cons x f ih => simp only [fieldsS, List.flatMap_cons, List.length_append, List.length_cons, List.length_nil] at ih ⊢; omega
theorem fieldsS_take (f : List (List UInt8 × List UInt8)) {k : Nat} (h : k < f.length) : fieldsS (f.take (k + 1)) = fieldsS (f.take k) ++ [(f.getD k ([], [])).1] ++ [(f.getD k ([], [])).2] := by
  rw [take_succ_getD (d := ([], [])) h]
  simp [fieldsS]
theorem fieldsS_pre (f : List (List UInt8 × List UInt8)) (k : Nat) : fieldsS (f.take k) <+: fieldsS f := by
  conv => rhs; rw [← List.take_append_drop k f]
  simp only [fieldsS, List.flatMap_append]
  exact List.prefix_append _ _
end It

set_option maxRecDepth 100000 in
set_option maxHeartbeats 4000000 in
theorem texts_seq (Bx : Nat) (kind : Int) (s : List UInt8) (aF : Option Addr) (cF : Nat) (fs : List (List UInt8 × List UInt8)) (aL : Option Addr) (cL : Nat) (ws : List (List UInt8)) (ex : Int) (w : World) (h1 : ItBox w Bx kind s aF fs.length cF aL ws.length cL ex)
    (h2 : Fds w aF cF fs) (h3 : Wds w aL cL ws) (hn : fs.length ≤ 1000000) (hm : ws.length ≤ 1000000) (Dt Pv : Nat → Prop) (hD1 : Dt Bx) (hD2 : ∀ b off, aF = some ⟨b, off, none⟩ → 0 < fs.length → Dt b) (hD3 : ∀ b off, aL = some ⟨b, off, none⟩ → 0 < ws.length → Dt b) :
    SeqT true Try.prog 35 #[.pointer (some ⟨Bx, 0, none⟩)] encW Dt Pv (fun ys => ys = s :: (It.fieldsS fs ++ ws)) (fun p => p <+: s :: (It.fieldsS fs ++ ws)) (1 + 2 * fs.length + ws.length) w := by
  intro l J Jx W hW hJ _ _ hY h0
  have hlt := h1.lt
  have HFd := Lib.hid h2
  have HWd := Lib.hid h3
  have HBl := Lib.hid hW
  obtain ⟨-, c1, c2, c3, -⟩ := (h1.later hW).at
  have HY := Lib.hid hY
  have hWs := hW.size
  have HA := Lib.hid hJ
  have HFL := Lib.hid (It.fieldsS_len fs)
  obtain ⟨fn0, tmps0, assign0, body0, hy0, hR0⟩ := HY.out (fun _ => False) [] s W (fun _ h => h.elim) (Nat.le_refl _) h0 (by simp; omega)
  have HR0 := Lib.hid hR0
  unfold encW at hy0
  clear h1 hY h2 h3 hJ hW hR0 h0
  refine callsIn_of_wp Try.func35 rfl trivial ?_ rfl
  simp only [Try.ntmps35, List.size_toArray, List.length_cons, List.length_nil, Nat.reduceAdd, Nat.reduceSub, Array.replicate_succ, Array.replicate_zero, List.push_toArray, List.append_toArray, List.nil_append, List.cons_append]
  gi_wp2
  refine ⟨rfl, HR0.out.mono ?_⟩
  rintro e W1 ⟨hk1, O1, hg1, hout⟩
  obtain ⟨hO1, hK1⟩ := round_next (O := fun _ => False) (wr := W) (fun _ h => h.elim) (Nat.le_refl _) (Nat.le_refl _) rfl (Keeps.refl _ _) hk1 hg1
  have HK1 := Lib.hid hK1
  have HO1 := Lib.hid hO1
  have hs1 := hK1.size
  have d2 := (hK1.cell (p := ⟨Bx, 2, none⟩) (by simp; omega) hD1).trans c2
  have d3 := (hK1.cell (p := ⟨Bx, 3, none⟩) (by simp; omega) hD1).trans c3
  clear hk1 hg1 hK1 hO1 c1 c2 hy0 HR0
  rcases hout with ⟨rfl, hj⟩ | ⟨rfl, hj⟩
  rotate_left
  · have HJ1 := Lib.hid hj
    clear hj
    gi_wp2
    refine bodyPost_ret (results_none rfl _ _ _) rfl ?_
    exact ⟨⟨_, rfl⟩, hs1, O1, HO1.out, .inr ⟨_, ⟨_, rfl⟩, HJ1.out⟩⟩
  have HJ1 := Lib.hid hj
  clear hj
  gi_wp2
  gi_loopw [15] (fun i wr => ∃ (k : Nat) (O : Nat → Prop), i = .int .i64 k ∧ k ≤ fs.length ∧ (∀ k, O k → W.heap.size ≤ k ∧ k < wr.heap.size) ∧ J O (s :: It.fieldsS (fs.take k)) wr ∧ Hid (Keeps Dt W wr) ∧ W.heap.size ≤ wr.heap.size) (fun i _ => fs.length - (intOf i).toNat)
  case atStart => exact ⟨0, O1, rfl, Nat.zero_le _, HO1.out, by simpa [It.fieldsS] using HJ1.out, HK1, hs1⟩
  case round =>
    obtain ⟨k, O, rfl, hk, hO, hJs, HK, hsz⟩ := hrel
    have HJs := Lib.hid hJs
    clear hJs HJ1 HK1 HO1 d2 d3
    by_cases hlt2 : k < fs.length
    · obtain ⟨b, off, rfl, hb, hc⟩ := HFd.out.get (by omega)
      have hDb := hD2 b off rfl (by omega)
      have c1 := ((HK.out.cell (p := ⟨b, off + k * 2, none⟩) (by simp; omega) hDb).trans (HBl.out.cell (p := ⟨b, off + k * 2, none⟩) hb)).trans (hc k hlt2).1
      have c2 := ((HK.out.cell (p := ⟨b, off + k * 2 + 1, none⟩) (by simp; omega) hDb).trans (HBl.out.cell (p := ⟨b, off + k * 2 + 1, none⟩) hb)).trans (hc k hlt2).2
      have hwl : (fs.length : Int) ≤ 1000000 := by omega
      have hkI : (k : Int) < (fs.length : Int) := by omega
      have HT := Lib.hid (It.fieldsS_take fs hlt2)
      have hlen : (It.fieldsS (fs.take k)).length = 2 * k := by rw [It.fieldsS_len, List.length_take]; omega
      have HLen := Lib.hid hlen
      clear hc hlen
      generalize (fs.getD k ([], [])).1 = x at c1 HT
      generalize (fs.getD k ([], [])).2 = y at c2 HT
      have hJa := HA.out _ _ _ _ HJs.out ((Keeps.refl _ _).alloc (.cells #[.string ⟨x.toArray⟩, .string ⟨y.toArray⟩] 37))
      obtain ⟨fn, tmps, assign, body, hy, hR⟩ := HY.out O (s :: It.fieldsS (fs.take k)) x (wr.alloc (.cells #[.string ⟨x.toArray⟩, .string ⟨y.toArray⟩] 37)) (fun j hj => ⟨(hO j hj).1, by have := (hO j hj).2; simp; omega⟩) (by simp; omega) hJa (by rw [List.length_cons, HLen.out]; omega)
      have HR := Lib.hid hR
      clear hR hJa
      unfold encW at hy
      have hBx : Hid (∀ O, (∀ k, O k → W.heap.size ≤ k ∧ k < wr.heap.size) → RoundS Dt Pv W.heap.size O wr.heap.size) := Lib.hid fun O h => .inr (.inr ⟨hsz, fun hh => by have := (h _ hh).2; omega⟩)
      gi_wp2
      refine ⟨rfl, HR.out.mono ?_⟩
      rintro e W3 ⟨hk3, O', hg3, hout⟩
      obtain ⟨hO', hK3⟩ := round_next hO (by simp) hsz rfl (HK.out.alloc _) hk3 hg3
      have hcell : W3.cell? ⟨wr.heap.size, 1, none⟩ = some (.string ⟨y.toArray⟩) := (hk3.cell (p := ⟨wr.heap.size, 1, none⟩) (by simp) (hBx.out O hO)).trans (by simp [go_sem])
      have HK3 := Lib.hid hK3
      have HO' := Lib.hid hO'
      have hs3 := hK3.size
      clear hk3 hg3 hK3 hO' c1 c2 hy HR
      rcases hout with ⟨rfl, hJ3⟩ | ⟨rfl, hJx3⟩
      · have HJ3 := Lib.hid hJ3
        obtain ⟨fn, tmps, assign, body, hy, hR⟩ := HY.out O' (s :: It.fieldsS (fs.take k) ++ [x]) y W3 HO'.out hs3 hJ3 (by rw [List.length_append, List.length_cons, HLen.out]; simp; omega)
        have HR := Lib.hid hR
        clear hR hJ3
        unfold encW at hy
        gi_wp2
        refine ⟨rfl, HR.out.mono ?_⟩
        rintro e W4 ⟨hk4, O4, hg4, hout⟩
        obtain ⟨hO4, hK4⟩ := round_next HO'.out (Nat.le_refl _) hs3 rfl HK3.out hk4 hg4
        have HK4 := Lib.hid hK4
        have HO4 := Lib.hid hO4
        have hs4 := hK4.size
        clear hk4 hg4 hK4 hO4 hy HR
        rcases hout with ⟨rfl, hJ4⟩ | ⟨rfl, hJx4⟩
        · have HJ4 := Lib.hid hJ4
          clear hJ4
          gi_wp2
          go_roundw
          case rel => exact ⟨k + 1, O4, by go_num, by omega, HO4.out, by rw [HT.out]; exact HJ4.out, HK4, hs4⟩
          case measure => simp [intOf]; omega
        · have HJ4 := Lib.hid hJx4
          clear hJx4
          gi_wp2
          refine bodyPost_ret (results_none rfl _ _ _) rfl ?_
          refine ⟨⟨_, rfl⟩, hs4, O4, HO4.out, .inr ⟨_, ?_, HJ4.out⟩⟩
          have := (It.fieldsS_pre fs (k + 1)).trans (List.prefix_append _ ws)
          rw [HT.out] at this
          exact List.cons_prefix_cons.2 ⟨rfl, this⟩
      · have HJ3 := Lib.hid hJx3
        clear hJx3
        gi_wp2
        refine ⟨fun _ h => (by cases h), ?_⟩
        gi_wp2
        refine bodyPost_ret (results_none rfl _ _ _) rfl ?_
        refine ⟨⟨_, rfl⟩, hs3, O', HO'.out, .inr ⟨_, ?_, HJ3.out⟩⟩
        have := (It.fieldsS_pre fs (k + 1)).trans (List.prefix_append _ ws)
        rw [HT.out] at this
        exact List.cons_prefix_cons.2 ⟨rfl, (List.prefix_append _ _).trans this⟩
    · obtain rfl : k = fs.length := by omega
      have d3 := (HK.out.cell (p := ⟨Bx, 3, none⟩) (by simp; omega) hD1).trans c3
      have HJ1 : Hid (J O (s :: It.fieldsS fs) wr) := Lib.hid (by have := HJs.out; rwa [List.take_length] at this)
      clear HJs
      gi_wp2
      gi_loopw [35] (fun i wr => ∃ (k : Nat) (O : Nat → Prop), i = .int .i64 k ∧ k ≤ ws.length ∧ (∀ k, O k → W.heap.size ≤ k ∧ k < wr.heap.size) ∧ J O (s :: (It.fieldsS fs ++ ws.take k)) wr ∧ Hid (Keeps Dt W wr) ∧ W.heap.size ≤ wr.heap.size) (fun i _ => ws.length - (intOf i).toNat)
      case atStart => exact ⟨0, O, rfl, Nat.zero_le _, hO, by simpa using HJ1.out, HK, hsz⟩
      case round =>
        clear HJ1 d3 hO HK hsz
        obtain ⟨k, O, rfl, hk, hO, hJs, HK, hsz⟩ := hrel
        have HJs := Lib.hid hJs
        clear hJs
        by_cases hlt : k < ws.length
        · obtain ⟨b, off, rfl, hb, hc⟩ := HWd.out.get (by omega)
          have hDb := hD3 b off rfl (by omega)
          have c1 := ((HK.out.cell (p := ⟨b, off + k, none⟩) (by simp; omega) hDb).trans (HBl.out.cell (p := ⟨b, off + k, none⟩) hb)).trans (hc k hlt)
          have hwl : (ws.length : Int) ≤ 1000000 := by omega
          have hkI : (k : Int) < (ws.length : Int) := by omega
          have HT : Hid (ws.take (k + 1) = ws.take k ++ [ws.getD k []]) := Lib.hid (take_succ_getD hlt)
          clear hc
          generalize ws.getD k [] = x at c1 HT
          obtain ⟨fn, tmps, assign, body, hy, hR⟩ := HY.out O (s :: (It.fieldsS fs ++ ws.take k)) x wr hO hsz HJs.out (by rw [List.length_cons, List.length_append, List.length_take, HFL.out]; omega)
          have HR := Lib.hid hR
          clear hR
          unfold encW at hy
          gi_wp2
          refine ⟨rfl, HR.out.mono ?_⟩
          rintro e W3 ⟨hk3, O', hg3, hout⟩
          obtain ⟨hO', hK3⟩ := round_next hO (Nat.le_refl _) hsz rfl HK.out hk3 hg3
          have HK3 := Lib.hid hK3
          have HO' := Lib.hid hO'
          have hs3 := hK3.size
          clear hk3 hg3 hK3 hO' c1
          rcases hout with ⟨rfl, hJ3⟩ | ⟨rfl, hJx3⟩
          · have HJ3 := Lib.hid hJ3
            clear hJ3
            gi_wp2
            go_roundw
            case rel => exact ⟨k + 1, O', by go_num, by omega, HO'.out, by rw [HT.out, ← List.append_assoc]; exact HJ3.out, HK3, hs3⟩
            case measure => simp [intOf]; omega
          · have HJ3 := Lib.hid hJx3
            clear hJx3
            gi_wp2
            refine bodyPost_ret (results_none rfl _ _ _) rfl ?_
            refine ⟨⟨_, rfl⟩, hs3, O', HO'.out, .inr ⟨_, ?_, HJ3.out⟩⟩
            show s :: (It.fieldsS fs ++ ws.take k) ++ [x] <+: _
            rw [List.cons_append, List.append_assoc, ← HT.out]
            exact List.cons_prefix_cons.2 ⟨rfl, (List.prefix_append_right_inj _).2 (List.take_prefix _ _)⟩
        · obtain rfl : k = ws.length := by omega
          gi_wp2
          go_end0
          exact ⟨⟨_, rfl⟩, hsz, O, hO, .inl ⟨_, rfl, by have := HJs.out; rwa [List.take_length] at this⟩⟩

end Go.Proofs.Ytdnonginlbjcoaa
