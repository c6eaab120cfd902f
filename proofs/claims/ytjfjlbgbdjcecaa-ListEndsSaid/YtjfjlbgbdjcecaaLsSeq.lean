/- The contracts of slices.All, slices.Backward, list.walk, and of the iterators that they hand out. -/
import Derived.Test.YtjfjlbgbdjcecaaLsBase
namespace Go.Proofs.Ytjfjlbgbdjcecaa
open Go.RowKit Go.Shelf
attribute [local go_sem] Oper.semAt_some
set_option linter.unusedVariables false
set_option linter.unusedSimpArgs false

theorem Ls.ok_dir {back : Bool} {ws : List Ls.Bs} (h : ∀ s ∈ ws, s.length ≤ 1000000) {k : Nat} (hk : k < ws.length) : OkI ws.length (Ls.dirAt back ws k) := ⟨h _ (Ls.dirAt_mem back hk).1, (Ls.dirAt_mem back hk).2⟩

set_option maxRecDepth 100000 in
set_option maxHeartbeats 4000000 in
theorem all_seq (Bx : Nat) (a : Option Addr) (cap : Nat) (ws : List Ls.Bs) (w : World) (h1 : Boxed w Bx 22 (.slice a ws.length cap)) (h2 : Wds w a cap ws) (hn : ws.length ≤ 1000000) (hok : ∀ s ∈ ws, s.length ≤ 1000000) (Dt Pv : Nat → Prop) (hD : ∀ b off, a = some ⟨b, off, none⟩ → 0 < ws.length → Dt b) :
    SeqB (OkI ws.length) true Try.prog 34 #[.pointer (some ⟨Bx, 0, none⟩)] encE Dt Pv (fun ys => ys = Ls.dirL false ws) (fun p => p <+: Ls.dirL false ws) ws.length w := by
  intro l J Jx W hW hJ _ _ hY h0
  have HB : Boxed W Bx 22 (.slice a ws.length cap) := (hW.block _ h1.lt).trans h1
  have HWd := Lib.hid h2
  have HBl := Lib.hid hW
  have c0 := HB.cell
  have HY := Lib.hid hY
  have hWs := hW.size
  have HA := Lib.hid hJ
  clear h1 HB hY h2 hJ hW
  refine callsIn_of_wp Try.func34 rfl trivial ?_ rfl
  simp only [Try.ntmps34, List.size_toArray, List.length_cons, List.length_nil, Nat.reduceAdd, Nat.reduceSub, Array.replicate_succ, Array.replicate_zero, List.push_toArray, List.append_toArray, List.nil_append, List.cons_append]
  gi_wp2
  gi_loopw [7] (fun i wr => ∃ (k : Nat) (O : Nat → Prop), i = .int .i64 k ∧ k ≤ ws.length ∧ (∀ k, O k → W.heap.size ≤ k ∧ k < wr.heap.size) ∧ J O (Ls.dirK false ws k) wr ∧ Hid (Keeps Dt W wr) ∧ W.heap.size ≤ wr.heap.size) (fun i _ => ws.length - (intOf i).toNat)
  case atStart => exact ⟨0, fun _ => False, rfl, Nat.zero_le _, fun _ h => h.elim, by simpa [Ls.dirK_zero] using h0, Lib.hid (Keeps.refl _ _), Nat.le_refl _⟩
  case round =>
    obtain ⟨k, O, rfl, hk, hO, hJs, HK, hsz⟩ := hrel
    have HJs := Lib.hid hJs
    clear hJs
    by_cases hlt : k < ws.length
    · obtain ⟨b, off, rfl, hb, hc⟩ := HWd.out.get (by omega)
      have hDb := hD b off rfl (by omega)
      have c1 := ((HK.out.cell (p := ⟨b, off + k, none⟩) (by simp; omega) hDb).trans (HBl.out.cell (p := ⟨b, off + k, none⟩) hb)).trans (hc k hlt)
      have hwl : (ws.length : Int) ≤ 1000000 := by omega
      have hkI : (k : Int) < (ws.length : Int) := by omega
      have HT : Hid (Ls.dirK false ws (k + 1) = Ls.dirK false ws k ++ [(k, ws.getD k [])]) := Lib.hid (Ls.dirK_succ false ws k)
      have hT : OkI ws.length (k, ws.getD k []) := Ls.ok_dir (back := false) hok hlt
      clear hc
      generalize ws.getD k [] = x at c1 HT hT
      obtain ⟨fn, tmps, assign, body, hy, hR⟩ := HY.out O (Ls.dirK false ws k) (k, x) wr (fun j hj => hO j hj) hsz HJs.out (by rw [Ls.dirK_len]; omega) hT
      have HR := Lib.hid hR
      clear hR hT
      unfold encE at hy
      simp only at hy
      gi_wp2
      refine ⟨rfl, HR.out.mono ?_⟩
      rintro e W3 ⟨hk3, O', hg3, hout⟩
      obtain ⟨hO', hK3⟩ := round_next hO (Nat.le_refl _) hsz rfl HK.out hk3 hg3
      have HK3 := Lib.hid hK3
      have HO' := Lib.hid hO'
      have hs3 := hK3.size
      clear hk3 hg3 hK3 hO' c1
      rcases hout with ⟨rfl, hJ3⟩ | ⟨rfl, hJx3⟩
      · have HJ3 := Lib.hid hJ3
        clear hJ3
        gi_wp2
        go_roundw
        case rel => exact ⟨k + 1, O', by go_num, by omega, HO'.out, by rw [HT.out]; exact HJ3.out, HK3, by omega⟩
        case measure => simp [intOf]; omega
      · have HJ3 := Lib.hid hJx3
        clear hJx3
        gi_wp2
        refine bodyPost_ret (results_none rfl _ _ _) rfl ?_
        exact ⟨⟨_, rfl⟩, by omega, O', HO'.out, .inr ⟨_, by rw [← HT.out]; exact Ls.dirK_pre _ _ (by omega), HJ3.out⟩⟩
    · obtain rfl : k = ws.length := by omega
      gi_wp2
      refine bodyPost_end (results_none rfl _ _ _) rfl ?_
      exact ⟨⟨_, rfl⟩, hsz, O, hO, .inl ⟨_, rfl, HJs.out⟩⟩

set_option maxRecDepth 100000 in
set_option maxHeartbeats 4000000 in
theorem backward_seq (Bx : Nat) (a : Option Addr) (cap : Nat) (ws : List Ls.Bs) (w : World) (h1 : Boxed w Bx 22 (.slice a ws.length cap)) (h2 : Wds w a cap ws) (hn : ws.length ≤ 1000000) (hok : ∀ s ∈ ws, s.length ≤ 1000000) (Dt Pv : Nat → Prop) (hDx : Dt Bx) (hD : ∀ b off, a = some ⟨b, off, none⟩ → 0 < ws.length → Dt b) :
    SeqB (OkI ws.length) true Try.prog 33 #[.pointer (some ⟨Bx, 0, none⟩)] encE Dt Pv (fun ys => ys = Ls.dirL true ws) (fun p => p <+: Ls.dirL true ws) ws.length w := by
  intro l J Jx W hW hJ _ _ hY h0
  have HB : Boxed W Bx 22 (.slice a ws.length cap) := (hW.block _ h1.lt).trans h1
  have hBx : Bx < W.heap.size := HB.lt
  have HWd := Lib.hid h2
  have HBl := Lib.hid hW
  have c0 := HB.cell
  have C0 := Lib.hid c0
  have HY := Lib.hid hY
  have hWs := hW.size
  have HA := Lib.hid hJ
  have hwl : (ws.length : Int) ≤ 1000000 := by omega
  clear h1 HB hY h2 hJ hW
  refine callsIn_of_wp Try.func33 rfl trivial ?_ rfl
  simp only [Try.ntmps33, List.size_toArray, List.length_cons, List.length_nil, Nat.reduceAdd, Nat.reduceSub, Array.replicate_succ, Array.replicate_zero, List.push_toArray, List.append_toArray, List.nil_append, List.cons_append]
  gi_wp2
  clear c0
  gi_loopw [3] (fun i wr => ∃ (k : Nat) (O : Nat → Prop), i = .int .i64 ((ws.length : Int) - 1 - k) ∧ k ≤ ws.length ∧ (∀ k, O k → W.heap.size ≤ k ∧ k < wr.heap.size) ∧ J O (Ls.dirK true ws k) wr ∧ Hid (Keeps Dt W wr) ∧ W.heap.size ≤ wr.heap.size) (fun i _ => (intOf i + 1).toNat)
  case atStart => exact ⟨0, fun _ => False, by simp, Nat.zero_le _, fun _ h => h.elim, by simpa [Ls.dirK_zero] using h0, Lib.hid (Keeps.refl _ _), Nat.le_refl _⟩
  case round =>
    obtain ⟨k, O, rfl, hk, hO, hJs, HK, hsz⟩ := hrel
    have HJs := Lib.hid hJs
    clear hJs
    by_cases hlt : k < ws.length
    · obtain ⟨b, off, rfl, hb, hc⟩ := HWd.out.get (by omega)
      have hDb := hD b off rfl (by omega)
      obtain ⟨j, hj⟩ : ∃ j : Nat, ws.length - 1 - k = j := ⟨_, rfl⟩
      have hji : (ws.length : Int) - 1 - k = (j : Int) := by omega
      have c1 := ((HK.out.cell (p := ⟨b, off + j, none⟩) (by simp; omega) hDb).trans (HBl.out.cell (p := ⟨b, off + j, none⟩) hb)).trans (hc j (by omega))
      have c2 := (HK.out.cell (p := ⟨Bx, 0, none⟩) hBx hDx).trans C0.out
      have hkI : (j : Int) < (ws.length : Int) := by omega
      have HT : Hid (Ls.dirK true ws (k + 1) = Ls.dirK true ws k ++ [(j, ws.getD j [])]) := Lib.hid (by rw [Ls.dirK_succ, Ls.dirAt, if_pos rfl, hj])
      have hT : OkI ws.length (j, ws.getD j []) := by have := Ls.ok_dir (back := true) hok hlt; rwa [Ls.dirAt, if_pos rfl, hj] at this
      have HJI := Lib.hid hji
      have HJ0 := Lib.hid hj
      rw [hji]
      clear hc hj hji
      generalize ws.getD j [] = x at c1 HT hT
      obtain ⟨fn, tmps, assign, body, hy, hR⟩ := HY.out O (Ls.dirK true ws k) (j, x) wr (fun j hj => hO j hj) hsz HJs.out (by rw [Ls.dirK_len]; omega) hT
      have HR := Lib.hid hR
      clear hR hT
      unfold encE at hy
      simp only at hy
      gi_wp2
      refine ⟨rfl, HR.out.mono ?_⟩
      rintro e W3 ⟨hk3, O', hg3, hout⟩
      obtain ⟨hO', hK3⟩ := round_next hO (Nat.le_refl _) hsz rfl HK.out hk3 hg3
      have HK3 := Lib.hid hK3
      have HO' := Lib.hid hO'
      have hs3 := hK3.size
      clear hk3 hg3 hK3 hO' c1 c2
      rcases hout with ⟨rfl, hJ3⟩ | ⟨rfl, hJx3⟩
      · have HJ3 := Lib.hid hJ3
        clear hJ3
        gi_wp2
        go_roundw
        case rel => exact ⟨k + 1, O', by rw [← HJI.out]; go_num, by omega, HO'.out, by rw [HT.out]; exact HJ3.out, HK3, by omega⟩
        case measure => simp [intOf]
      · have HJ3 := Lib.hid hJx3
        clear hJx3
        gi_wp2
        refine bodyPost_ret (results_none rfl _ _ _) rfl ?_
        exact ⟨⟨_, rfl⟩, by omega, O', HO'.out, .inr ⟨_, by rw [← HT.out]; exact Ls.dirK_pre _ _ (by omega), HJ3.out⟩⟩
    · obtain rfl : k = ws.length := by omega
      have hm : (ws.length : Int) - 1 - (ws.length : Int) = -1 := by omega
      rw [hm]
      clear hm
      gi_wp2
      refine bodyPost_end (results_none rfl _ _ _) rfl ?_
      exact ⟨⟨_, rfl⟩, hsz, O, hO, .inl ⟨_, rfl, HJs.out⟩⟩

/-- the iterator of either direction. -/
def gfB (back : Bool) : Nat := if back then 33 else 34

theorem eg_gfB (back : Bool) (args : Array Value) (w : World) : (callFunc (gfB back) args).run Try.prog w = .ok (.enter (gfB back) args) w := by
  cases back
  · exact enters_of Try.func34 (by kernel_rfl) rfl args w
  · exact enters_of Try.func33 (by kernel_rfl) rfl args w

set_option maxHeartbeats 1000000 in
theorem walk_any (back : Bool) (a : Option Addr) (len cap : Nat) (w : World) :
    CallsIn Fence.wide 0 Try.prog 26 #[.slice a len cap, .bool back] w fun e w' =>
      e = .returned (.func (.func (gfB back)) #[] #[.pointer (some ⟨w.heap.size, 0, none⟩)]) ∧ w' = w.alloc (.cells #[.slice a len cap] 22) := by
  have hb : CallsIn Fence.wide 0 Try.prog 30 #[.slice a len cap] w fun e w' => e = .returned (.func (.func 33) #[] #[.pointer (some ⟨w.heap.size, 0, none⟩)]) ∧ w' = w.alloc (.cells #[.slice a len cap] 22) := by
    refine callsIn_of_wp Try.func30 rfl trivial ?_ rfl
    simp only [Try.ntmps30, List.size_toArray, List.length_cons, List.length_nil, Nat.reduceAdd, Nat.reduceSub, Array.replicate_succ, Array.replicate_zero, List.push_toArray, List.append_toArray, List.nil_append, List.cons_append]
    gi_wp2
    go_ret
    exact ⟨rfl, rfl⟩
  have ha : CallsIn Fence.wide 0 Try.prog 31 #[.slice a len cap] w fun e w' => e = .returned (.func (.func 34) #[] #[.pointer (some ⟨w.heap.size, 0, none⟩)]) ∧ w' = w.alloc (.cells #[.slice a len cap] 22) := by
    refine callsIn_of_wp Try.func31 rfl trivial ?_ rfl
    simp only [Try.ntmps31, List.size_toArray, List.length_cons, List.length_nil, Nat.reduceAdd, Nat.reduceSub, Array.replicate_succ, Array.replicate_zero, List.push_toArray, List.append_toArray, List.nil_append, List.cons_append]
    gi_wp2
    go_ret
    exact ⟨rfl, rfl⟩
  have HA := Lib.hid ha
  have HB := Lib.hid hb
  clear ha hb
  cases back
  · refine callsIn_of_wp Try.func26 rfl trivial ?_ rfl
    simp only [Try.ntmps26, List.size_toArray, List.length_cons, List.length_nil, Nat.reduceAdd, Nat.reduceSub, Array.replicate_succ, Array.replicate_zero, List.push_toArray, List.append_toArray, List.nil_append, List.cons_append]
    gi_wp2_with (refine ⟨trivial, rfl, ?_⟩; with_reducible refine HA.out.mono ?_; rintro e w1' ⟨rfl, rfl⟩)
    go_ret
    exact ⟨rfl, rfl⟩
  · refine callsIn_of_wp Try.func26 rfl trivial ?_ rfl
    simp only [Try.ntmps26, List.size_toArray, List.length_cons, List.length_nil, Nat.reduceAdd, Nat.reduceSub, Array.replicate_succ, Array.replicate_zero, List.push_toArray, List.append_toArray, List.nil_append, List.cons_append]
    gi_wp2_with (refine ⟨trivial, rfl, ?_⟩; with_reducible refine HB.out.mono ?_; rintro e w1' ⟨rfl, rfl⟩)
    go_ret
    exact ⟨rfl, rfl⟩

/-- the iterator that list.walk hands out. -/
theorem walk_seq (back : Bool) (Bx : Nat) (a : Option Addr) (cap : Nat) (ws : List Ls.Bs) (w : World) (h1 : Boxed w Bx 22 (.slice a ws.length cap)) (h2 : Wds w a cap ws) (hn : ws.length ≤ 1000000) (hok : ∀ s ∈ ws, s.length ≤ 1000000) (Dt Pv : Nat → Prop) (hDx : Dt Bx) (hD : ∀ b off, a = some ⟨b, off, none⟩ → 0 < ws.length → Dt b) :
    SeqB (OkI ws.length) true Try.prog (gfB back) #[.pointer (some ⟨Bx, 0, none⟩)] encE Dt Pv (fun ys => ys = Ls.dirL back ws) (fun p => p <+: Ls.dirL back ws) ws.length w := by
  cases back
  · exact all_seq Bx a cap ws w h1 h2 hn hok Dt Pv hD
  · exact backward_seq Bx a cap ws w h1 h2 hn hok Dt Pv hDx hD
theorem wds_block {w : World} {a : Option Addr} {cap : Nat} {ws : List Ls.Bs} (h : Wds w a cap ws) : ∀ b off, a = some ⟨b, off, none⟩ → 0 < ws.length → b < w.heap.size := by
  intro b off ha h0
  obtain ⟨b', off', ha', hb', -⟩ := h.get h0
  rw [ha] at ha'
  injection ha' with ha'
  injection ha' with ha'
  omega
/-- list.walk, and its iterator, behind the block that it lays. -/
theorem walk_at (back : Bool) (a : Option Addr) (cap : Nat) (ws : List Ls.Bs) (w : World) (hF : Wds w a cap ws) (hn : ws.length ≤ 1000000) (hok : ∀ s ∈ ws, s.length ≤ 1000000) :
    SeqB (OkI ws.length) true Try.prog (gfB back) #[.pointer (some ⟨w.heap.size, 0, none⟩)] encE (fun k => k < (w.alloc (.cells #[.slice a ws.length cap] 22)).heap.size) (fun _ => False) (fun ys => ys = Ls.dirL back ws) (fun p => p <+: Ls.dirL back ws) ws.length (w.alloc (.cells #[.slice a ws.length cap] 22)) := by
  have hb := Boxed.new w 22 (.slice a ws.length cap)
  have hB : Below w.heap.size w (w.alloc (.cells #[.slice a ws.length cap] 22)) := (Below.refl _ _).alloc (Nat.le_refl _) _
  exact walk_seq back w.heap.size a cap ws _ hb (hF.later hB) hn hok _ _ hb.lt fun b off ha h0 => by
    have := wds_block hF b off ha h0
    rw [World.size_alloc]
    omega
end Go.Proofs.Ytjfjlbgbdjcecaa
