/- The reference's PutItem and GetItem (10.1). The reference's GetItem (10.1), where there are words. -/
import Derived.Test.YtbkhnnjjpelfcaaGreatDoorDpRefWords
import Derived.Test.YtbkhnnjjpelfcaaGreatDoorDpRps
import Derived.Test.YtbkhnnjjpelfcaaGreatDoorRpRefPutAll
import Derived.Test.YtbkhnnjjpelfcaaGreatDoorItRefMay
import Derived.Test.YtbkhnnjjpelfcaaGreatDoorTxRefNum
import Derived.Test.YtbkhnnjjpelfcaaGreatDoorSlotCrc
import Derived.Test.YtbkhnnjjpelfcaaGreatDoorRespBytesWalk
import Derived.BigQuiet
import Derived.Test.YtbkhnnjjpelfcaaGreatDoorItBoxes
import Derived.Deep.Cut
import Derived.Deep.DeepCutAuto
namespace Go.Proofs.YtbkhnnjjpelfcaaGreatDoor
open Go.RowKit Go.Shelf
attribute [local go_sem] Oper.semAt_some
set_option linter.unusedVariables false
set_option linter.unusedSimpArgs false

theorem rput_any (k x : Int) (s : List UInt8) (aF : Option Addr) (cF : Nat) (fs : List (List UInt8 × List UInt8)) (aL : Option Addr) (cL : Nat) (ws : List (List UInt8)) (w : World) (hF : Fds w aF cF fs) (hL : Wds w aL cL ws) (hn : aL = none → cL = 0) :
    Calls Tryz.prog 11 #[itv k s aF fs.length cF aL ws.length cL x] w fun e w' => e = .returned (.string ⟨(Dp.putS ⟨k, s, fs, ws, x⟩).toArray⟩) ∧ Below w.heap.size w w' :=
  Dp.putItem_any (fun k x s aF cF fs aL cL ws w hF hL => refMay_any k x s aF cF fs aL cL ws w hF hL) (fun n w h0 h1 => digits_any n w h0 h1) (Dp.words_ref fun x a c w hx hl => putReply_any x a c w hx hl)
    (fun l w hl => by
      have hs : (⟨l.toArray⟩ : ByteArray).size = l.length := by simp [ByteArray.size]
      have := refCrc_walk ⟨l.toArray⟩ w (by rw [hs]; unfold maxLen; omega)
      simpa using this) k x s aF cF fs aL cL ws w hF hL hn

/-- what is told of a candidate. -/
def getR (X : List UInt8) (i : It.I) : Option It.I := if Dp.putS i = X then some i else none

/-- an item or none, as the reference tells it. -/
def ROut5 (o : Option It.I) (w : World) (e : Ending) (W : World) : Prop := Below w.heap.size w W ∧ match o with
  | none => e = .returned (.agg #[.int .i64 0, .string ⟨#[]⟩, .slice none 0 0, .slice none 0 0, .int .i64 0, .bool false])
  | some i => ∃ aF cF aL cL, e = .returned (.agg #[.int .i64 i.kind, .string ⟨i.s.toArray⟩, .slice aF i.f.length cF, .slice aL i.l.length cL, .int .i64 i.exp, .bool true]) ∧ Fds W aF cF i.f ∧ Wds W aL cL i.l

/-- the result's box. -/
def Gb (W : World) (B : Nat) (k : Int) (s : List UInt8) (aF : Option Addr) (nF cF : Nat) (aL : Option Addr) (nL cL : Nat) (x : Int) (b : Bool) : Prop :=
  W.heap[B]? = some (.cells #[.int .i64 k, .string ⟨s.toArray⟩, .slice aF nF cF, .slice aL nL cL, .int .i64 x, .bool b] 31 (0, 0))
def stGb (w : World) (B : Nat) (k : Int) (s : List UInt8) (aF : Option Addr) (nF cF : Nat) (aL : Option Addr) (nL cL : Nat) (x : Int) (b : Bool) : World :=
  (((((w.setCell ⟨B, 0, none⟩ (.int .i64 k)).setCell ⟨B, 1, none⟩ (.string ⟨s.toArray⟩)).setCell ⟨B, 2, none⟩ (.slice aF nF cF)).setCell ⟨B, 3, none⟩ (.slice aL nL cL)).setCell ⟨B, 4, none⟩ (.int .i64 x)).setCell ⟨B, 5, none⟩ (.bool b)
theorem Gb.lt {W : World} {B : Nat} {k : Int} {s : List UInt8} {aF : Option Addr} {nF cF : Nat} {aL : Option Addr} {nL cL : Nat} {x : Int} {b : Bool} (h : Gb W B k s aF nF cF aL nL cL x b) : B < W.heap.size := (Array.getElem?_eq_some_iff.1 h).1
theorem Gb.at {W : World} {B : Nat} {k : Int} {s : List UInt8} {aF : Option Addr} {nF cF : Nat} {aL : Option Addr} {nL cL : Nat} {x : Int} {b : Bool} (h : Gb W B k s aF nF cF aL nL cL x b) :
    (W.cell? ⟨B, 0, none⟩ = some (.int .i64 k) ∧ W.cell? ⟨B, 1, none⟩ = some (.string ⟨s.toArray⟩) ∧ W.cell? ⟨B, 2, none⟩ = some (.slice aF nF cF) ∧ W.cell? ⟨B, 3, none⟩ = some (.slice aL nL cL) ∧ W.cell? ⟨B, 4, none⟩ = some (.int .i64 x) ∧ W.cell? ⟨B, 5, none⟩ = some (.bool b)) ∧
    (W.frozen? ⟨B, 0, none⟩ = false ∧ W.frozen? ⟨B, 1, none⟩ = false ∧ W.frozen? ⟨B, 2, none⟩ = false ∧ W.frozen? ⟨B, 3, none⟩ = false ∧ W.frozen? ⟨B, 4, none⟩ = false ∧ W.frozen? ⟨B, 5, none⟩ = false) := by
  unfold Gb at h
  simp [World.cell?, World.frozen?, h]
theorem Gb.store {W : World} {B : Nat} {k0 : Int} {s0 : List UInt8} {a0 : Option Addr} {n0 c0 : Nat} {a1 : Option Addr} {n1 c1 : Nat} {x0 : Int} {b0 : Bool} (h : Gb W B k0 s0 a0 n0 c0 a1 n1 c1 x0 b0) (k : Int) (s : List UInt8) (aF : Option Addr) (nF cF : Nat) (aL : Option Addr) (nL cL : Nat) (x : Int) (b : Bool) :
    Gb (stGb W B k s aF nF cF aL nL cL x b) B k s aF nF cF aL nL cL x b := by
  unfold Gb at h ⊢
  simp [stGb, World.setCell, Array.getElem?_modify, h]
theorem Keeps.stGb {S : Nat → Prop} {A W : World} (h : Keeps S A W) {B : Nat} (hB : A.heap.size ≤ B ∨ ¬ S B) (k : Int) (s : List UInt8) (aF : Option Addr) (nF cF : Nat) (aL : Option Addr) (nL cL : Nat) (x : Int) (b : Bool) : Keeps S A (stGb W B k s aF nF cF aL nL cL x b) :=
  (((((h.setCell (p := ⟨B, 0, none⟩) hB _).setCell (p := ⟨B, 1, none⟩) hB _).setCell (p := ⟨B, 2, none⟩) hB _).setCell (p := ⟨B, 3, none⟩) hB _).setCell (p := ⟨B, 4, none⟩) hB _).setCell (p := ⟨B, 5, none⟩) hB _
theorem below_stGb {w W : World} {B : Nat} (h : Below w.heap.size w W) (hB : w.heap.size ≤ B) (k : Int) (s : List UInt8) (aF : Option Addr) (nF cF : Nat) (aL : Option Addr) (nL cL : Nat) (x : Int) (b : Bool) : Below w.heap.size w (stGb W B k s aF nF cF aL nL cL x b) :=
  (((((h.setCell (p := ⟨B, 0, none⟩) hB _).setCell (p := ⟨B, 1, none⟩) hB _).setCell (p := ⟨B, 2, none⟩) hB _).setCell (p := ⟨B, 3, none⟩) hB _).setCell (p := ⟨B, 4, none⟩) hB _).setCell (p := ⟨B, 5, none⟩) hB _
theorem loadGb {W : World} {B : Nat} {k : Int} {s : List UInt8} {aF : Option Addr} {nF cF : Nat} {aL : Option Addr} {nL cL : Nat} {x : Int} {b : Bool} (h : Gb W B k s aF nF cF aL nL cL x b) :
    (loadVar 31 ⟨B, 0, none⟩).run Tryz.prog W = .ok (.agg #[.int .i64 k, .string ⟨s.toArray⟩, .slice aF nF cF, .slice aL nL cL, .int .i64 x, .bool b]) W := by
  obtain ⟨⟨h0, h1, h2, h3, h4, h5⟩, -⟩ := h.at
  simp [loadVar, go_sem, h0, h1, h2, h3, h4, h5]
/-- zero, and what was there. -/
def Gz (w W : World) : Prop := Gb W w.heap.size 0 [] none 0 0 none 0 0 0 false ∧ Below w.heap.size w W
theorem Gz.later {w W W' : World} (h : Gz w W) (hb : Below W.heap.size W W') : Gz w W' := ⟨(hb.block _ h.1.lt).trans h.1, h.2.trans (hb.mono h.2.size)⟩
theorem Gz.new (w : World) : Gz w (w.alloc (.cells #[.int .i64 0, .string ⟨#[]⟩, .slice none 0 0, .slice none 0 0, .int .i64 0, .bool false] 31)) := ⟨World.alloc_heap_new w _, (Below.refl _ w).alloc (Nat.le_refl _) _⟩

set_option maxRecDepth 100000 in
set_option maxHeartbeats 1000000 in
theorem rget_few (X : List UInt8) (w : World) (hl : X.length < 2) : Calls Tryz.prog 9 #[.string ⟨X.toArray⟩] w (ROut5 none w) := by
  have HZ := Lib.hid (Gz.new w)
  have hsz : (⟨X.toArray⟩ : ByteArray).size = X.length := by simp [ByteArray.size]
  have hlI : (X.length : Int) < 2 := by omega
  go_enter Tryz.func9, Tryz.ntmps9
  go_wp2
  exact bodyPost_ret (results_cell rfl rfl (loadGb HZ.out.1)) rfl ⟨HZ.out.2, rfl⟩

set_option maxRecDepth 100000 in
set_option maxHeartbeats 1000000 in
theorem rget_err (X : List UInt8) (w : World) (hl : 2 ≤ X.length) (hm : X.length ≤ 3000) (c : Int) (h : Rp.replyD 8 X = .err c) : Calls Tryz.prog 9 #[.string ⟨X.toArray⟩] w (ROut5 none w) := by
  have hz := Gz.new w
  have hg := getReply_any X 0 (w.alloc (.cells #[.int .i64 0, .string ⟨#[]⟩, .slice none 0 0, .slice none 0 0, .int .i64 0, .bool false] 31)) hm (by decide) (by decide)
  rw [show getO X 0 = .err c by unfold getO; rw [if_neg (by omega)]; exact h] at hg
  have HZ := Lib.hid hz
  have HG := Lib.hid hg
  have hsz : (⟨X.toArray⟩ : ByteArray).size = X.length := by simp [ByteArray.size]
  have hlI : ¬ (X.length : Int) < 2 := by omega
  clear hz hg h
  go_enter Tryz.func9, Tryz.ntmps9
  go_wp2_with fail
  refine HG.out.mono ?_
  rintro e w2 ⟨hb, hc0, rfl⟩
  have hz2 := (HZ.out.later hb).later ((Below.refl w2.heap.size w2).alloc (Nat.le_refl _) (.cells #[.int .i64 0, .string ⟨#[]⟩, .int .i64 0, .slice none 0 0, .int .i64 0, .int .i64 c] 51))
  obtain ⟨⟨z0, z1, z2, z3, z4, z5⟩, f0, f1, f2, f3, f4, f5⟩ := hz2.1.at
  have HS := Lib.hid (And.intro (hz2.1.store 0 [] none 0 0 none 0 0 0 false) (below_stGb hz2.2 (Nat.le_refl _) 0 [] none 0 0 none 0 0 0 false))
  have ec : (c == 0) = false := by rw [beq_eq_false_iff_ne]; exact hc0
  have hc1 : ¬ c = 0 := hc0
  clear hb hz2 HG HZ hc0
  unfold badV
  go_wp2
  exact bodyPost_ret (results_cell rfl rfl (loadGb HS.out.1)) rfl ⟨HS.out.2, rfl⟩

/-- what GetReply tells, with letters. -/
theorem reply_at (X : List UInt8) (w : World) (hm : X.length ≤ 3000) (r : Rp.R) (t : List UInt8) (h : Rp.replyD 8 X = .ok r t) :
    Calls Tryz.prog 16 #[.string ⟨X.toArray⟩, .int .i64 0] w fun e W => Below w.heap.size w W ∧ ∃ a c, e = .returned (.agg #[.int .i64 r.k, .string ⟨r.s.toArray⟩, .int .i64 r.n, .slice a r.l.length c, .int .i64 ((X.length : Int) - (t.length : Int)), .int .i64 0]) ∧ Rps W a c (r.l.map (·.s)) ∧ r.l.length ≤ 65536 := by
  have hg := getReply_any X 0 w hm (by decide) (by decide)
  rw [show getO X 0 = .ok r t by unfold getO; rw [if_neg (by omega)]; exact h] at hg
  refine hg.mono ?_
  rintro e W ⟨hb, a, c, rfl, hrep⟩
  have hsm := Rp.replyD_s 8 X r t h
  obtain ⟨-, -, -, -, e5⟩ := rps_of_rep hrep hsm (by omega)
  exact ⟨hb, a, c, rfl, e5, hsm.2.1⟩

set_option maxRecDepth 100000 in
set_option maxHeartbeats 2000000 in
theorem rget_bad (X : List UInt8) (w : World) (hl : 2 ≤ X.length) (hm : X.length ≤ 3000) (r : Rp.R) (t : List UInt8) (h : Rp.replyD 8 X = .ok r t) (hbad : ¬ (r.k = 6 ∧ t.length = 2 ∧ 3 ≤ r.l.length)) : Calls Tryz.prog 9 #[.string ⟨X.toArray⟩] w (ROut5 none w) := by
  have hz := Gz.new w
  have hg := reply_at X (w.alloc (.cells #[.int .i64 0, .string ⟨#[]⟩, .slice none 0 0, .slice none 0 0, .int .i64 0, .bool false] 31)) hm r t h
  have hsz : (⟨X.toArray⟩ : ByteArray).size = X.length := by simp [ByteArray.size]
  have hlI : ¬ (X.length : Int) < 2 := by omega
  have hw2 : IntKind.i64.wrap ((X.length : Int) - 2) = (X.length : Int) - 2 := IntWalk.i64_in _ (by omega)
  obtain ⟨nx, hnx⟩ : ∃ nx : Int, (X.length : Int) - (t.length : Int) = nx := ⟨_, rfl⟩
  rw [hnx] at hg
  have hc2 : (¬ r.k = 6) ∨ (r.k = 6 ∧ ¬ nx = (X.length : Int) - 2) ∨ (r.k = 6 ∧ nx = (X.length : Int) - 2 ∧ (r.l.length : Int) < 3) := by
    by_cases h6 : r.k = 6
    · by_cases ht : t.length = 2
      · exact .inr (.inr ⟨h6, by omega, by have : ¬ 3 ≤ r.l.length := fun h3 => hbad ⟨h6, ht, h3⟩; omega⟩)
      · exact .inr (.inl ⟨h6, by omega⟩)
    · exact .inl h6
  generalize r.k = rk at *
  generalize r.s = rs at *
  generalize r.n = rn at *
  obtain ⟨m, hmm⟩ : ∃ m, r.l.length = m := ⟨_, rfl⟩
  rw [hmm] at hg hc2
  obtain ⟨n, hn⟩ : ∃ n, X.length = n := ⟨_, rfl⟩
  rw [hn] at hlI hw2 hc2 hsz
  have HG := Lib.hid hg
  have HZ := Lib.hid hz
  clear hz hg h hbad hnx hmm hn
  rcases hc2 with h6 | ⟨h6, hne⟩ | ⟨h6, heq, h3⟩
  · have e6 : (rk == 6) = false := by rw [beq_eq_false_iff_ne]; exact h6
    go_enter Tryz.func9, Tryz.ntmps9
    go_wp2_with fail
    refine HG.out.mono ?_
    rintro e w2 ⟨hb, a, c, rfl, -⟩
    have hz2 := (HZ.out.later hb).later ((Below.refl w2.heap.size w2).alloc (Nat.le_refl _) (.cells #[.int .i64 rk, .string ⟨rs.toArray⟩, .int .i64 rn, .slice a m c, .int .i64 nx, .int .i64 0] 51))
    obtain ⟨⟨z0, z1, z2, z3, z4, z5⟩, f0, f1, f2, f3, f4, f5⟩ := hz2.1.at
    have HS := Lib.hid (And.intro (hz2.1.store 0 [] none 0 0 none 0 0 0 false) (below_stGb hz2.2 (Nat.le_refl _) 0 [] none 0 0 none 0 0 0 false))
    clear hb hz2 HG HZ
    go_wp2
    exact bodyPost_ret (results_cell rfl rfl (loadGb HS.out.1)) rfl ⟨HS.out.2, rfl⟩
  · subst h6
    have en : (nx == (n : Int) - 2) = false := by rw [beq_eq_false_iff_ne]; exact hne
    go_enter Tryz.func9, Tryz.ntmps9
    go_wp2_with fail
    refine HG.out.mono ?_
    rintro e w2 ⟨hb, a, c, rfl, -⟩
    have hz2 := (HZ.out.later hb).later ((Below.refl w2.heap.size w2).alloc (Nat.le_refl _) (.cells #[.int .i64 6, .string ⟨rs.toArray⟩, .int .i64 rn, .slice a m c, .int .i64 nx, .int .i64 0] 51))
    obtain ⟨⟨z0, z1, z2, z3, z4, z5⟩, f0, f1, f2, f3, f4, f5⟩ := hz2.1.at
    have HS := Lib.hid (And.intro (hz2.1.store 0 [] none 0 0 none 0 0 0 false) (below_stGb hz2.2 (Nat.le_refl _) 0 [] none 0 0 none 0 0 0 false))
    clear hb hz2 HG HZ
    go_wp2
    exact bodyPost_ret (results_cell rfl rfl (loadGb HS.out.1)) rfl ⟨HS.out.2, rfl⟩
  · subst h6
    subst heq
    go_enter Tryz.func9, Tryz.ntmps9
    go_wp2_with fail
    refine HG.out.mono ?_
    rintro e w2 ⟨hb, a, c, rfl, -⟩
    have hz2 := (HZ.out.later hb).later ((Below.refl w2.heap.size w2).alloc (Nat.le_refl _) (.cells #[.int .i64 6, .string ⟨rs.toArray⟩, .int .i64 rn, .slice a m c, .int .i64 ((n : Int) - 2), .int .i64 0] 51))
    obtain ⟨⟨z0, z1, z2, z3, z4, z5⟩, f0, f1, f2, f3, f4, f5⟩ := hz2.1.at
    have HS := Lib.hid (And.intro (hz2.1.store 0 [] none 0 0 none 0 0 0 false) (below_stGb hz2.2 (Nat.le_refl _) 0 [] none 0 0 none 0 0 0 false))
    clear hb hz2 HG HZ
    go_wp2
    exact bodyPost_ret (results_cell rfl rfl (loadGb HS.out.1)) rfl ⟨HS.out.2, rfl⟩
end Go.Proofs.YtbkhnnjjpelfcaaGreatDoor
namespace Go.Proofs.YtbkhnnjjpelfcaaGreatDoor
open Go.RowKit Go.Shelf
attribute [local go_sem] Oper.semAt_some
set_option linter.unusedVariables false
set_option linter.unusedSimpArgs false

theorem pairs_len : ∀ l : List (List UInt8), (Dp.pairsS l).length = l.length / 2
  | [] => rfl
  | [_] => by simp [Dp.pairsS]
  | a :: b :: l => by
    have := pairs_len l
    show (Dp.pairsS l).length + 1 = _
    simp only [List.length_cons]
    omega
theorem pairs_at : ∀ (l : List (List UInt8)) (q : Nat), q < l.length / 2 → (Dp.pairsS l).getD q ([], []) = (l.getD (2 * q) [], l.getD (2 * q + 1) [])
  | [], q, h => by simp at h
  | [_], q, h => by simp at h
  | a :: b :: l, q, h => by
    cases q with
    | zero => rfl
    | succ q =>
      have := pairs_at l q (by simp only [List.length_cons] at h; omega)
      show (Dp.pairsS l).getD q ([], []) = _
      rw [this]
      rfl
/-- the item's box, made before all is told. -/
theorem cpAt_box {W0 w1 : World} {Bc : Nat} {k : Int} {s : List UInt8} {x : Int} (hb : Below W0.heap.size W0 w1) (hBc : W0.heap.size ≤ Bc) (hx : ItBox w1 Bc 0 [] none 0 0 none 0 0 0) : CpAt W0 k s x (.pointer (some ⟨Bc, 0, none⟩))
    (((((w1.setCell ⟨Bc, 0, none⟩ (.int .i64 k)).setCell ⟨Bc, 1, none⟩ (.string ⟨s.toArray⟩)).setCell ⟨Bc, 2, none⟩ (.slice none 0 0)).setCell ⟨Bc, 3, none⟩ (.slice none 0 0)).setCell ⟨Bc, 4, none⟩ (.int .i64 x)) :=
  ⟨_, rfl, hBc, hx.store k s none 0 0 none 0 0 x, ((((hb.setCell (p := ⟨Bc, 0, none⟩) hBc _).setCell (p := ⟨Bc, 1, none⟩) hBc _).setCell (p := ⟨Bc, 2, none⟩) hBc _).setCell (p := ⟨Bc, 3, none⟩) hBc _).setCell (p := ⟨Bc, 4, none⟩) hBc _⟩
theorem Fds.farR {w W : World} {B : Nat} {a : Option Addr} {c : Nat} {fs : List (List UInt8 × List UInt8)} (h : Fds w a c fs) (hk : Keeps (fun j => j ≠ B) w W) (hf : ∀ b off, a = some ⟨b, off, none⟩ → B < b) : Fds W a c fs :=
  h.keep hk.size fun b off e hlt => hk.block b hlt (by have := hf b off e; omega)
theorem Wds.farR {w W : World} {B : Nat} {a : Option Addr} {c : Nat} {ws : List (List UInt8)} (h : Wds w a c ws) (hk : Keeps (fun j => j ≠ B) w W) (hf : ∀ b off, a = some ⟨b, off, none⟩ → B < b) : Wds W a c ws :=
  h.keep hk.size fun b off e hlt => hk.block b hlt (by have := hf b off e; omega)
theorem Gz.set {w W : World} (h : Gz w W) {Bc : Nat} (hB : w.heap.size < Bc) (hlt : Bc < W.heap.size) (j : Nat) (v : Value) : Gz w (W.setCell ⟨Bc, j, none⟩ v) := by
  have hk : Keeps (fun k => k ≠ Bc) W (W.setCell ⟨Bc, j, none⟩ v) := (Keeps.refl _ W).setCell (.inr fun h => h rfl) _
  exact ⟨hk.heap h.1 (by omega), h.2.setCell (p := ⟨Bc, j, none⟩) (by simp; omega) _⟩
theorem Gz.keep {w W W' : World} (h : Gz w W) {Bc : Nat} (hk : Keeps (fun k => k ≠ Bc) W W') (hB : w.heap.size < Bc) (hlt : Bc < W.heap.size) : Gz w W' :=
  ⟨hk.heap h.1 (by omega), h.2.trans (hk.below h.2.size fun k hk' => by omega)⟩
theorem num_field (n : Int) (o : Bool) (W : World) : (Instr.field 54 (.agg #[.int .i64 n, .bool o]) 0).run Tryz.prog W = .ok (.int .i64 n) W := by
  unfold Instr.field
  simp [go_sem, part, asAgg]
theorem two_next {A B : World} {p0 p1 : Addr} {v0 v1 : Value} (h : A.cell? p0 = some v0 ∧ A.cell? p1 = some v1) (hb : Below A.heap.size A B) : B.cell? p0 = some v0 ∧ B.cell? p1 = some v1 :=
  ⟨(hb.cell (World.block_lt_of_cell? A p0 h.1)).trans h.1, (hb.cell (World.block_lt_of_cell? A p1 h.2)).trans h.2⟩

set_option maxRecDepth 100000 in
set_option maxHeartbeats 4000000 in
theorem rget_good (X : List UInt8) (w : World) (hl : 2 ≤ X.length) (hm : X.length ≤ 3000) (r : Rp.R) (t : List UInt8) (h : Rp.replyD 8 X = .ok r t) (hk6 : r.k = 6) (ht2 : t.length = 2) (hm3 : 3 ≤ r.l.length) : Calls Tryz.prog 9 #[.string ⟨X.toArray⟩] w (ROut5 (getR X (Dp.candI (Tx.numS ((r.l.map (·.s)).getD 0 [])).1 (Tx.numS ((r.l.map (·.s)).getD 1 [])).1 (r.l.map (·.s)))) w) := by
  have hz := Gz.new w
  have hg := reply_at X (w.alloc (.cells #[.int .i64 0, .string ⟨#[]⟩, .slice none 0 0, .slice none 0 0, .int .i64 0, .bool false] 31)) hm r t h
  have hsz : (⟨X.toArray⟩ : ByteArray).size = X.length := by simp [ByteArray.size]
  have hlI : ¬ (X.length : Int) < 2 := by omega
  have hw2 : IntKind.i64.wrap ((X.length : Int) - 2) = (X.length : Int) - 2 := IntWalk.i64_in _ (by omega)
  rw [hk6, ht2] at hg
  obtain ⟨ss, hss⟩ : ∃ ss, r.l.map (·.s) = ss := ⟨_, rfl⟩
  have hmm : r.l.length = ss.length := by rw [← hss, List.length_map]
  rw [hss, hmm] at hg
  rw [hss]
  rw [hmm] at hm3
  generalize r.s = rs at *
  generalize r.n = rn at *
  have hm3I : ¬ (ss.length : Int) < 3 := by omega
  have HG := Lib.hid hg
  have HZ := Lib.hid hz
  have hnlen : X.length ≤ 3000 := hm
  obtain ⟨G, hG⟩ : ∃ G, getR X (Dp.candI (Tx.numS (ss.getD 0 [])).1 (Tx.numS (ss.getD 1 [])).1 ss) = G := ⟨_, rfl⟩
  rw [hG]
  have HGW := Lib.hid hG
  clear hz hg h hk6 ht2 hss hmm hG
  go_enter Tryz.func9, Tryz.ntmps9
  go_wp2_with fail
  refine HG.out.mono ?_
  rintro e w2 ⟨hb, a, c, rfl, hrps, hlen⟩
  obtain ⟨w3, hw3⟩ : ∃ w3, w2.alloc (.cells #[.int .i64 6, .string ⟨rs.toArray⟩, .int .i64 rn, .slice a ss.length c, .int .i64 ((X.length : Int) - 2), .int .i64 0] 51) = w3 := ⟨_, rfl⟩
  have hal : Below w2.heap.size w2 w3 := by rw [← hw3]; exact (Below.refl _ w2).alloc (Nat.le_refl _) _
  have hx := World.alloc_heap_new w2 (.cells #[.int .i64 6, .string ⟨rs.toArray⟩, .int .i64 rn, .slice a ss.length c, .int .i64 ((X.length : Int) - 2), .int .i64 0] 51)
  rw [hw3] at hx
  have x0 := cell_of_row _ _ 0 _ _ _ hx
  have x3 := cell_of_row _ _ 3 _ _ _ hx
  have x4 := cell_of_row _ _ 4 _ _ _ hx
  have x5 := cell_of_row _ _ 5 _ _ _ hx
  simp at x0 x3 x4 x5
  have HZ3 := Lib.hid ((HZ.out.later hb).later hal)
  have HR3 := Lib.hid (hrps.later hal)
  have HW3 := Lib.hid hw3
  have hB1 := (Array.getElem?_eq_some_iff.1 hx).1
  clear hb hrps hal hx hw3 HG HZ
  go_upto_region 4 with (fail)
  rw [show w2.alloc (.cells #[.int .i64 6, .string ⟨rs.toArray⟩, .int .i64 rn, .slice a ss.length c, .int .i64 ((X.length : Int) - 2), .int .i64 0] 51) = w3 from HW3.out]
  clear HW3
  go_wp2
  have hwl : (ss.length : Int) ≤ 65536 := by omega
  go_loopw [4, 5] (fun u i wr => ∃ q : Nat, q ≤ ss.length ∧ i = .int .i64 (q : Int) ∧ Hid (RowW w3 u (ss.take q) wr)) (fun _ i _ => ss.length - (intOf i).toNat)
  case atStart => exact ⟨0, Nat.zero_le _, rfl, Lib.hid ⟨World.ownsRow_nil _ _ _ _, Below.refl _ _⟩⟩
  case round =>
    obtain ⟨q, hq, rfl, HQ⟩ := hrel
    have y3 := (HQ.out.2.cell (p := ⟨w2.heap.size, 3, none⟩) hB1).trans x3
    by_cases hlt : q < ss.length
    · have hltI : (q : Int) < (ss.length : Int) := by omega
      obtain ⟨b, off, rfl, hbl, hc⟩ := HR3.out.get (by omega)
      obtain ⟨-, -, -, -, -, -, g1, -, -⟩ := hc q hlt
      have y1 := (HQ.out.2.cell (p := ⟨b, off + q * 4 + 1, none⟩) hbl).trans g1
      have hcap := HR3.out.1
      have hcapI : (q : Int) < (c : Int) := by omega
      have HTk := Lib.hid (take_succ_getD (d := []) hlt)
      have hu := HR3.out.2.2.1 (ss.getD q []) (by rw [getD_eq hlt]; exact List.getElem_mem hlt)
      have ewn : IntKind.i64.wrap ((q : Int) + 1) = (q : Int) + 1 := IntWalk.i64_in _ (by omega)
      obtain ⟨s1, hs1⟩ : ∃ s1, ss.getD q [] = s1 := ⟨_, rfl⟩
      rw [hs1] at y1 HTk hu
      clear g1 hc hs1
      go_wp2_with (at_builtin; refine Dp.wpList_append_w rfl (.tmp 47) (.tmp 55) rfl rfl (HQ.out.later ((Below.refl _ _).alloc (Nat.le_refl _) _)) rfl (Dp.wds_one _ s1 hu) (fun h => by cases h) (by rw [List.length_take]; omega) (by simp) ?_)
      intro v5 w5 hr5
      have HR5 : Hid (RowW w3 v5 (ss.take (q + 1)) w5) := Lib.hid (by rw [HTk.out]; exact hr5)
      clear hr5 y3 y1 HQ HTk
      go_wp2
      go_roundw
      case rel => exact ⟨q + 1, by omega, by go_num, HR5⟩
      case measure => simp [intOf]; omega
    · obtain rfl : q = ss.length := by omega
      have HRow : Hid (RowW w3 u4 ss wr) := Lib.hid (by have := HQ.out; rwa [List.take_length] at this)
      obtain ⟨a4, c4, rfl, hwd, hnn⟩ := Dp.row_open HRow.out (fun s h => by have := HR3.out.2.2.1 s h; omega)
      obtain ⟨b, off, rfl, hbl, hcc⟩ := hwd.get (by omega)
      have g0 := hcc 0 (by omega)
      have g1 := hcc 1 (by omega)
      rw [Nat.add_zero] at g0
      have hsl : ∀ j, (ss.getD j []).length ≤ 1000000 := fun j => by
        by_cases hj : j < ss.length
        · rw [getD_eq hj]; exact HR3.out.2.2.1 _ (List.getElem_mem hj)
        · simp [List.getD, Nat.le_of_not_lt hj]
      have HSL := Lib.hid hsl
      have hn0 := fun W => refNum_any (ss.getD 0 []) W (hsl 0)
      have hn1 := fun W => refNum_any (ss.getD 1 []) W (hsl 1)
      unfold NumOut at hn0 hn1
      have hG := HGW.out
      clear HGW
      generalize Tx.numS (ss.getD 0 []) = p0 at hn0 hG
      generalize Tx.numS (ss.getD 1 []) = p1 at hn1 hG
      obtain ⟨n0, o0⟩ := p0
      obtain ⟨n1, o1⟩ := p1
      obtain ⟨s0, hs0⟩ : ∃ s0, ss.getD 0 [] = s0 := ⟨_, rfl⟩
      obtain ⟨s1, hs1⟩ : ∃ s1, ss.getD 1 [] = s1 := ⟨_, rfl⟩
      rw [hs0] at g0 hn0
      rw [hs1] at g1 hn1
      simp only at hn0 hn1 hG
      have HN0 := Lib.hid hn0
      have HN1 := Lib.hid hn1
      have HG2 := Lib.hid hG
      have HWD := Lib.hid hwd
      have HCC := Lib.hid hcc
      have HZr := Lib.hid (HZ3.out.later HRow.out.2)
      have hc4 := hwd.1
      have hl0I : (0 : Int) < (ss.length : Int) := by omega
      have hbw3 : w3.heap.size ≤ b := (HRow.out.1.lt b rfl).1
      have hbb : w.heap.size < b := by have := HZ3.out.1.lt; omega
      have hne0 : ¬ ss = [] := by rintro rfl; simp at hm3
      have hfd0 := num_field n0 o0
      have hfd1 := num_field n1 o1
      have hl1I : (1 : Int) < (ss.length : Int) := by omega
      have HS0 : wr.drew.cell? ⟨b, off, none⟩ = some (.string ⟨s0.toArray⟩) ∧ wr.drew.cell? ⟨b, off + 1, none⟩ = some (.string ⟨s1.toArray⟩) := ⟨(World.cell?_drew _ _).trans g0, (World.cell?_drew _ _).trans g1⟩
      clear hn0 hn1 hG hwd hcc HQ HRow HR3 HZ3 x0 x3 x4 x5 g0 g1 hsl hs0 hs1 hnn
      go_upto_region 11 with (fail)
      clear y3
      go_cut [6] (fun p W1 => CpAt wr n0 [] n1 p W1)
      case first =>
        refine wp_region_L (S := (fun W => W.cell? ⟨b, off, none⟩ = some (.string ⟨s0.toArray⟩) ∧ W.cell? ⟨b, off + 1, none⟩ = some (.string ⟨s1.toArray⟩))) (f := 12) (by kernel_rfl) ?_
        refine wpAnyL_take (i := 0) (some 57) (v := .slice (some ⟨b, off, none⟩) ss.length c4) rfl rfl (by kernel_rfl) (by kernel_rfl) (by kernel_rfl) (by kernel_rfl) (fun _ _ _ h => h) (by rfl) (fun W hS => ?_) HS0 ?_
        · obtain ⟨m0, m1⟩ := hS
          go_simp
        try simp only [Act.put, List.setIfInBounds_toArray, List.set_cons_zero, List.set_cons_succ]
        refine wpAnyL_take (i := 1) (some 58) (v := .pointer (some ⟨b, off, none⟩)) rfl rfl (by kernel_rfl) (by kernel_rfl) (by kernel_rfl) (by kernel_rfl) (fun _ _ _ h => h) (by rfl) (fun W hS => ?_) HS0 ?_
        · obtain ⟨m0, m1⟩ := hS
          go_simp
        try simp only [Act.put, List.setIfInBounds_toArray, List.set_cons_zero, List.set_cons_succ]
        refine wpAnyL_take (i := 2) (some 59) (v := .string ⟨s0.toArray⟩) rfl rfl (by kernel_rfl) (by kernel_rfl) (by kernel_rfl) (by kernel_rfl) (fun _ _ _ h => h) (by rfl) (fun W hS => ?_) HS0 ?_
        · obtain ⟨m0, m1⟩ := hS
          go_simp
        try simp only [Act.put, List.setIfInBounds_toArray, List.set_cons_zero, List.set_cons_succ]
        refine wpAnyL_take (i := 5) (some 62) (v := .slice (some ⟨b, off, none⟩) ss.length c4) rfl rfl (by kernel_rfl) (by kernel_rfl) (by kernel_rfl) (by kernel_rfl) (fun _ _ _ h => h) (by rfl) (fun W hS => ?_) HS0 ?_
        · obtain ⟨m0, m1⟩ := hS
          go_simp
        try simp only [Act.put, List.setIfInBounds_toArray, List.set_cons_zero, List.set_cons_succ]
        refine wpAnyL_take (i := 6) (some 63) (v := .pointer (some ⟨b, off + 1, none⟩)) rfl rfl (by kernel_rfl) (by kernel_rfl) (by kernel_rfl) (by kernel_rfl) (fun _ _ _ h => h) (by rfl) (fun W hS => ?_) HS0 ?_
        · obtain ⟨m0, m1⟩ := hS
          go_simp
        try simp only [Act.put, List.setIfInBounds_toArray, List.set_cons_zero, List.set_cons_succ]
        refine wpAnyL_take (i := 7) (some 64) (v := .string ⟨s1.toArray⟩) rfl rfl (by kernel_rfl) (by kernel_rfl) (by kernel_rfl) (by kernel_rfl) (fun _ _ _ h => h) (by rfl) (fun W hS => ?_) HS0 ?_
        · obtain ⟨m0, m1⟩ := hS
          go_simp
        try simp only [Act.put, List.setIfInBounds_toArray, List.set_cons_zero, List.set_cons_succ]
        refine wpAnyL_two (i := 3) (j := 11) (by kernel_rfl) rfl rfl (by rfl) (by rfl) (fun K hK => ?_) (fun K hK => ?_)
        · go_simp
          with_reducible refine (HN0.out _).mono ?_
          rintro e w5 ⟨rfl, hb⟩
          have HS1 := two_next HS0 hb
          have HB1 := Lib.hid (((Below.refl wr.heap.size wr).drew).trans hb)
          clear hb
          refine hK _ _ (fun _ => HS1) ?_
          clear hK K
          try simp only [Act.put, List.setIfInBounds_toArray, List.set_cons_zero, List.set_cons_succ]
          refine wpAnyL_take (i := 4) (some 61) (v := .int .i64 n0) rfl rfl (by kernel_rfl) (by kernel_rfl) (by kernel_rfl) (by kernel_rfl) (fun _ _ _ h => h) (by rfl) (fun W hS => ?_) HS1 ?_
          · obtain ⟨m0, m1⟩ := hS
            go_simp
          try simp only [Act.put, List.setIfInBounds_toArray, List.set_cons_zero, List.set_cons_succ]
          refine wpAnyL_two (i := 8) (j := 11) (by kernel_rfl) rfl rfl (by rfl) (by rfl) (fun K hK => ?_) (fun K hK => ?_)
          · go_simp
            with_reducible refine (HN1.out _).mono ?_
            rintro e w6 ⟨rfl, hb⟩
            have HS2 := two_next HS1 hb
            have HB2 := Lib.hid (HB1.out.trans (hb.mono HB1.out.size))
            clear hb
            refine hK _ _ (fun _ => HS2) ?_
            clear hK K
            try simp only [Act.put, List.setIfInBounds_toArray, List.set_cons_zero, List.set_cons_succ]
            refine wpAnyL_take (i := 9) (some 66) (v := .int .i64 n1) rfl rfl (by kernel_rfl) (by kernel_rfl) (by kernel_rfl) (by kernel_rfl) (fun _ _ _ h => h) (by rfl) (fun W hS => ?_) HS2 ?_
            · obtain ⟨m0, m1⟩ := hS
              go_simp
            try simp only [Act.put, List.setIfInBounds_toArray, List.set_cons_zero, List.set_cons_succ]
            refine wpAnyL_take (i := 10) (some 67) (v := .agg #[.int .i64 n0, .string ⟨#[]⟩, .slice none 0 0, .slice none 0 0, .int .i64 n1]) rfl rfl (by kernel_rfl) (by kernel_rfl) (by kernel_rfl) (by kernel_rfl) (fun _ _ _ h => h) (by rfl) (fun W hS => ?_) HS2 ?_
            · obtain ⟨m0, m1⟩ := hS
              go_simp
            try simp only [Act.put, List.setIfInBounds_toArray, List.set_cons_zero, List.set_cons_succ]
            refine wpAnyL_one (j := 11) (by kernel_rfl) rfl (by rfl) (fun K hK => ?_)
            refine oper_wp_val (v := .pointer (some ⟨w6.heap.size, 0, none⟩)) (w' := w6.alloc (.cells #[.int .i64 0, .string ⟨#[]⟩, .slice none 0 0, .slice none 0 0, .int .i64 0] 25)) (by go_simp) ?_
            have hba : Below w6.heap.size w6 (w6.alloc (.cells #[.int .i64 0, .string ⟨#[]⟩, .slice none 0 0, .slice none 0 0, .int .i64 0] 25)) := (Below.refl _ _).alloc (Nat.le_refl _) _
            have HS3 := two_next HS2 hba
            have hx : ItBox (w6.alloc (.cells #[.int .i64 0, .string ⟨#[]⟩, .slice none 0 0, .slice none 0 0, .int .i64 0] 25)) w6.heap.size 0 [] none 0 0 none 0 0 0 := ItBox.new w6 0 [] none 0 0 none 0 0 0
            have HB3 := Lib.hid (HB2.out.trans (hba.mono HB2.out.size))
            clear hba
            refine hK _ _ (fun _ => HS3) ?_
            clear hK K
            try simp only [Act.put, List.setIfInBounds_toArray, List.set_cons_zero, List.set_cons_succ]
            obtain ⟨z0, z1, z2, z3, z4⟩ := (hx).at
            obtain ⟨f0, f1, f2, f3, f4⟩ := (hx).free
            refine wpAnyL_one (j := 12) (by kernel_rfl) rfl (by rfl) (fun K hK => ?_)
            go_simp
            refine hK _ _ (fun h => (h rfl).elim) ?_
            clear hK K
            try simp only [Act.put, List.setIfInBounds_toArray, List.set_cons_zero, List.set_cons_succ]
            refine wpAnyL_done (by kernel_rfl) ?_ _
            go_wp2_with fail
            go_meet
            case rel => exact cpAt_late HB2.out
          · refine oper_wp_val (v := .pointer (some ⟨w5.heap.size, 0, none⟩)) (w' := w5.alloc (.cells #[.int .i64 0, .string ⟨#[]⟩, .slice none 0 0, .slice none 0 0, .int .i64 0] 25)) (by go_simp) ?_
            have hba : Below w5.heap.size w5 (w5.alloc (.cells #[.int .i64 0, .string ⟨#[]⟩, .slice none 0 0, .slice none 0 0, .int .i64 0] 25)) := (Below.refl _ _).alloc (Nat.le_refl _) _
            have HS2 := two_next HS1 hba
            have hx : ItBox (w5.alloc (.cells #[.int .i64 0, .string ⟨#[]⟩, .slice none 0 0, .slice none 0 0, .int .i64 0] 25)) w5.heap.size 0 [] none 0 0 none 0 0 0 := ItBox.new w5 0 [] none 0 0 none 0 0 0
            have HB2 := Lib.hid (HB1.out.trans (hba.mono HB1.out.size))
            have hz5 := HB1.out.size
            clear hba
            refine hK _ _ (fun _ => HS2) ?_
            clear hK K
            try simp only [Act.put, List.setIfInBounds_toArray, List.set_cons_zero, List.set_cons_succ]
            refine wpAnyL_one (j := 8) (by kernel_rfl) rfl (by rfl) (fun K hK => ?_)
            go_simp
            with_reducible refine (HN1.out _).mono ?_
            rintro e w6 ⟨rfl, hb⟩
            have HS3 := two_next HS2 hb
            have HB3 := Lib.hid (HB2.out.trans (hb.mono HB2.out.size))
            have hx6 := hx.later hb
            clear hb hx
            refine hK _ _ (fun _ => HS3) ?_
            clear hK K
            try simp only [Act.put, List.setIfInBounds_toArray, List.set_cons_zero, List.set_cons_succ]
            refine wpAnyL_take (i := 9) (some 66) (v := .int .i64 n1) rfl rfl (by kernel_rfl) (by kernel_rfl) (by kernel_rfl) (by kernel_rfl) (fun _ _ _ h => h) (by rfl) (fun W hS => ?_) HS3 ?_
            · obtain ⟨m0, m1⟩ := hS
              go_simp
            try simp only [Act.put, List.setIfInBounds_toArray, List.set_cons_zero, List.set_cons_succ]
            refine wpAnyL_take (i := 10) (some 67) (v := .agg #[.int .i64 n0, .string ⟨#[]⟩, .slice none 0 0, .slice none 0 0, .int .i64 n1]) rfl rfl (by kernel_rfl) (by kernel_rfl) (by kernel_rfl) (by kernel_rfl) (fun _ _ _ h => h) (by rfl) (fun W hS => ?_) HS3 ?_
            · obtain ⟨m0, m1⟩ := hS
              go_simp
            try simp only [Act.put, List.setIfInBounds_toArray, List.set_cons_zero, List.set_cons_succ]
            obtain ⟨z0, z1, z2, z3, z4⟩ := (hx6).at
            obtain ⟨f0, f1, f2, f3, f4⟩ := (hx6).free
            refine wpAnyL_one (j := 12) (by kernel_rfl) rfl (by rfl) (fun K hK => ?_)
            go_simp
            refine hK _ _ (fun h => (h rfl).elim) ?_
            clear hK K
            try simp only [Act.put, List.setIfInBounds_toArray, List.set_cons_zero, List.set_cons_succ]
            refine wpAnyL_done (by kernel_rfl) ?_ _
            go_wp2_with fail
            go_meet
            case rel => exact cpAt_box HB3.out hz5 hx6
        · refine oper_wp_val (v := .pointer (some ⟨wr.heap.size, 0, none⟩)) (w' := wr.drew.alloc (.cells #[.int .i64 0, .string ⟨#[]⟩, .slice none 0 0, .slice none 0 0, .int .i64 0] 25)) (by go_simp) ?_
          have hba : Below wr.drew.heap.size wr.drew (wr.drew.alloc (.cells #[.int .i64 0, .string ⟨#[]⟩, .slice none 0 0, .slice none 0 0, .int .i64 0] 25)) := (Below.refl _ _).alloc (Nat.le_refl _) _
          have HS1 := two_next HS0 hba
          have hx : ItBox (wr.drew.alloc (.cells #[.int .i64 0, .string ⟨#[]⟩, .slice none 0 0, .slice none 0 0, .int .i64 0] 25)) wr.heap.size 0 [] none 0 0 none 0 0 0 := ItBox.new wr.drew 0 [] none 0 0 none 0 0 0
          have HB1 := Lib.hid (((Below.refl wr.heap.size wr).drew).trans hba)
          clear hba
          refine hK _ _ (fun _ => HS1) ?_
          clear hK K
          try simp only [Act.put, List.setIfInBounds_toArray, List.set_cons_zero, List.set_cons_succ]
          refine wpAnyL_one (j := 3) (by kernel_rfl) rfl (by rfl) (fun K hK => ?_)
          go_simp
          with_reducible refine (HN0.out _).mono ?_
          rintro e w5 ⟨rfl, hb⟩
          have HS2 := two_next HS1 hb
          have HB2 := Lib.hid (HB1.out.trans (hb.mono HB1.out.size))
          have hx5 := hx.later hb
          clear hb hx
          refine hK _ _ (fun _ => HS2) ?_
          clear hK K
          try simp only [Act.put, List.setIfInBounds_toArray, List.set_cons_zero, List.set_cons_succ]
          refine wpAnyL_take (i := 4) (some 61) (v := .int .i64 n0) rfl rfl (by kernel_rfl) (by kernel_rfl) (by kernel_rfl) (by kernel_rfl) (fun _ _ _ h => h) (by rfl) (fun W hS => ?_) HS2 ?_
          · obtain ⟨m0, m1⟩ := hS
            go_simp
          try simp only [Act.put, List.setIfInBounds_toArray, List.set_cons_zero, List.set_cons_succ]
          refine wpAnyL_one (j := 8) (by kernel_rfl) rfl (by rfl) (fun K hK => ?_)
          go_simp
          with_reducible refine (HN1.out _).mono ?_
          rintro e w6 ⟨rfl, hb⟩
          have HS3 := two_next HS2 hb
          have HB3 := Lib.hid (HB2.out.trans (hb.mono HB2.out.size))
          have hx6 := hx5.later hb
          clear hb hx5
          refine hK _ _ (fun _ => HS3) ?_
          clear hK K
          try simp only [Act.put, List.setIfInBounds_toArray, List.set_cons_zero, List.set_cons_succ]
          refine wpAnyL_take (i := 9) (some 66) (v := .int .i64 n1) rfl rfl (by kernel_rfl) (by kernel_rfl) (by kernel_rfl) (by kernel_rfl) (fun _ _ _ h => h) (by rfl) (fun W hS => ?_) HS3 ?_
          · obtain ⟨m0, m1⟩ := hS
            go_simp
          try simp only [Act.put, List.setIfInBounds_toArray, List.set_cons_zero, List.set_cons_succ]
          refine wpAnyL_take (i := 10) (some 67) (v := .agg #[.int .i64 n0, .string ⟨#[]⟩, .slice none 0 0, .slice none 0 0, .int .i64 n1]) rfl rfl (by kernel_rfl) (by kernel_rfl) (by kernel_rfl) (by kernel_rfl) (fun _ _ _ h => h) (by rfl) (fun W hS => ?_) HS3 ?_
          · obtain ⟨m0, m1⟩ := hS
            go_simp
          try simp only [Act.put, List.setIfInBounds_toArray, List.set_cons_zero, List.set_cons_succ]
          obtain ⟨z0, z1, z2, z3, z4⟩ := (hx6).at
          obtain ⟨f0, f1, f2, f3, f4⟩ := (hx6).free
          refine wpAnyL_one (j := 12) (by kernel_rfl) rfl (by rfl) (fun K hK => ?_)
          go_simp
          refine hK _ _ (fun h => (h rfl).elim) ?_
          clear hK K
          try simp only [Act.put, List.setIfInBounds_toArray, List.set_cons_zero, List.set_cons_succ]
          refine wpAnyL_done (by kernel_rfl) ?_ _
          go_wp2_with fail
          go_meet
          case rel => exact cpAt_box HB3.out (Nat.le_refl _) hx6
      case rest =>
        obtain ⟨Bc, rfl, hBc, hcb, hbw⟩ := hcut
        obtain ⟨b0, b1, b2, b3, b4⟩ := hcb.at
        obtain ⟨e0, e1, e2, e3, e4⟩ := hcb.free
        have HZc := Lib.hid (HZr.out.later hbw)
        have hwsz : w.heap.size < wr.heap.size := HZr.out.1.lt
        have hccI : (2 : Int) < (ss.length : Int) := by omega
        have hcm4 := HWD.out.2.1
        have HBW := Lib.hid hbw
        have HCB := Lib.hid hcb
        have hBcl := hcb.lt
        clear HN0 HN1 hfd0 hfd1 HS0 hbw hcb HZr
        have g2 := (HBW.out.cell (p := ⟨b, off + 2, none⟩) hbl).trans (HCC.out 2 (by omega))
        by_cases hk1 : n0 = 1
        · subst hk1
          obtain ⟨sv, hsv⟩ : ∃ sv, ss.getD 2 [] = sv := ⟨_, rfl⟩
          rw [hsv] at g2
          have HGI : getR X ⟨1, sv, [], [], n1⟩ = G := by rw [← hsv]; exact HG2.out
          have hx1 := HCB.out.set1 sv
          obtain ⟨w8, hw8⟩ : ∃ w8, wc.setCell ⟨Bc, 1, none⟩ (.string ⟨sv.toArray⟩) = w8 := ⟨_, rfl⟩
          have hz8 : Gz w w8 := by rw [← hw8]; exact HZc.out.set (by omega) (by omega) _ _
          rw [hw8] at hx1
          have HW8 := Lib.hid hw8
          clear hw8 HCC HWD HG2
          go_upto_region 21 with (fail)
          rw [show wc.setCell ⟨Bc, 1, none⟩ (.string ⟨sv.toArray⟩) = w8 from HW8.out]
          clear HW8
          have hpu := rput_any 1 n1 sv none 0 [] none 0 [] w8 (fds_nil w8) (wds_nil w8) (fun _ => rfl)
          obtain ⟨b0, b1, b2, b3, b4⟩ := (hx1).at
          have hfar : ∀ b7 o7, (none : Option Addr) = some ⟨b7, o7, none⟩ → w.heap.size < b7 := fun b o h => (by cases h)
          have hfar2 : ∀ b7 o7, (none : Option Addr) = some ⟨b7, o7, none⟩ → w.heap.size < b7 := fun b o h => (by cases h)
          have HFF := Lib.hid (And.intro hfar hfar2)
          have HFL := Lib.hid (And.intro ((fds_nil w8)) ((wds_nil w8)))
          have HGG := Lib.hid (hz8)
          have HGR : Hid (getR X ⟨1, sv, [], [], n1⟩ = G) := Lib.hid (HGI)
          clear hfar hfar2
          by_cases hp : Dp.putS ⟨1, sv, [], [], n1⟩ = X
          · obtain rfl : G = some ⟨1, sv, [], [], n1⟩ := HGR.out.symm.trans (if_pos hp)
            rw [hp] at hpu
            unfold itv at hpu
            simp only [List.length_nil] at hpu
            have HPu := Lib.hid hpu
            clear hpu hp HGR HGI
            go_wp2_with fail
            refine HPu.out.mono ?_
            rintro e w9 ⟨rfl, hb9⟩
            have hx9 := (hx1).later hb9
            obtain ⟨b0, b1, b2, b3, b4⟩ := hx9.at
            have hz9 := HGG.out.later hb9
            obtain ⟨⟨z0, z1, z2, z3, z4, z5⟩, f0, f1, f2, f3, f4, f5⟩ := hz9.1.at
            have hks : Keeps (fun j => j ≠ w.heap.size) w9 (stGb w9 w.heap.size 1 sv none 0 0 none 0 0 n1 true) := (Keeps.refl _ w9).stGb (.inr fun h => h rfl) 1 sv none 0 0 none 0 0 n1 true
            have HS := Lib.hid (And.intro (hz9.1.store 1 sv none 0 0 none 0 0 n1 true) (below_stGb hz9.2 (Nat.le_refl _) 1 sv none 0 0 none 0 0 n1 true))
            have HE := Lib.hid (And.intro ((HFL.out.1.later hb9).farR hks HFF.out.1) ((HFL.out.2.later hb9).farR hks HFF.out.2))
            clear hx9 hz9 hks hb9 HPu HGG HFL HFF
            go_wp2
            exact bodyPost_ret (results_cell rfl rfl (loadGb HS.out.1)) rfl ⟨HS.out.2, none, 0, none, 0, rfl, HE.out.1, HE.out.2⟩
          · obtain rfl : G = none := HGR.out.symm.trans (if_neg hp)
            obtain ⟨P, hP⟩ : ∃ P : List UInt8, Dp.putS ⟨1, sv, [], [], n1⟩ = P := ⟨_, rfl⟩
            rw [hP] at hp hpu
            have hpb : (P == X) = false := beq_eq_false_iff_ne.2 hp
            unfold itv at hpu
            simp only [List.length_nil] at hpu
            have HPu := Lib.hid hpu
            clear hpu hP HGR HGI
            go_wp2_with fail
            refine HPu.out.mono ?_
            rintro e w9 ⟨rfl, hb9⟩
            have hz9 := HGG.out.later hb9
            obtain ⟨⟨z0, z1, z2, z3, z4, z5⟩, f0, f1, f2, f3, f4, f5⟩ := hz9.1.at
            have HS := Lib.hid (And.intro (hz9.1.store 0 [] none 0 0 none 0 0 0 false) (below_stGb hz9.2 (Nat.le_refl _) 0 [] none 0 0 none 0 0 0 false))
            clear hz9 hb9 HPu HGG HFL HFF
            go_wp2
            exact bodyPost_ret (results_cell rfl rfl (loadGb HS.out.1)) rfl ⟨HS.out.2, rfl⟩
        have hk1b : (n0 == 1) = false := by rw [beq_eq_false_iff_ne]; exact hk1
        by_cases hk2 : n0 = 2
        · subst hk2
          obtain ⟨iF, hiF, hiF0, hiF1, hiF2⟩ := info_parts infoF
          obtain ⟨fs, hfs⟩ : ∃ fs, Dp.pairsS (ss.drop 2) = fs := ⟨_, rfl⟩
          have HGI : getR X ⟨2, [], fs, [], n1⟩ = G := by rw [← hfs]; exact HG2.out
          have hfl : fs.length = (ss.length - 2) / 2 := by rw [← hfs, pairs_len, List.length_drop]
          have hfa : ∀ q, q < fs.length → (fs.getD q ([], [])) = (ss.getD (2 + 2 * q) [], ss.getD (2 + 2 * q + 1) []) := fun q hq => by
            rw [← hfs, pairs_at _ _ (by rw [List.length_drop]; omega)]
            simp [List.getD, Nat.add_comm, Nat.add_assoc, Nat.add_left_comm]
          have hfb : ∀ p ∈ fs, p.1.length ≤ 1000000 ∧ p.2.length ≤ 1000000 := fun p hp => by
            obtain ⟨q, hq, rfl⟩ := List.getElem_of_mem hp
            have h := hfa q hq
            rw [getD_eq hq] at h
            rw [h]
            exact ⟨HSL.out _, HSL.out _⟩
          have HFL0 := Lib.hid hfl
          have HFA := Lib.hid hfa
          have HFB := Lib.hid hfb
          have hfl2 : fs.length ≤ 65536 := by omega
          clear hfs hfl hfa hfb HG2
          obtain ⟨w4, rfl⟩ : ∃ w4 : World, w4 = wr := ⟨_, rfl⟩
          go_wp2
          go_loopw [7] (fun i wx => ∃ q j : Nat, i = .int .i64 (j : Int) ∧ q ≤ fs.length ∧ Hid (j = 2 + 2 * q) ∧ Hid (CpF wc Bc 2 [] n1 fs q wx)) (fun i _ => ss.length + 2 - (intOf i).toNat)
          case atStart => exact ⟨0, 2, rfl, Nat.zero_le _, Lib.hid rfl, Lib.hid ⟨none, 0, HCB.out, World.ownsRow_nil _ _ _ _, Keeps.refl _ _⟩⟩
          case round =>
            obtain ⟨q, j, rfl, hq, HJ, HQ⟩ := hrel
            have hj2 : 2 ≤ j := by have := HJ.out; omega
            have hjl : j ≤ ss.length := by have := HJ.out; have := HFL0.out; omega
            have ewj : IntKind.i64.wrap ((j : Int) + 1) = (j : Int) + 1 := IntWalk.i64_in _ (by omega)
            by_cases hlt : j + 1 < ss.length
            · have hltI : (j : Int) + 1 < (ss.length : Int) := by omega
              have hlt0 : (j : Int) < (ss.length : Int) := by omega
              have hqf : q < fs.length := by have := HJ.out; have := HFL0.out; omega
              obtain ⟨a2, c2, hqx, hqo, hqk⟩ := HQ.out
              have hbne : b ≠ Bc := by omega
              have hbwc : b < wc.heap.size := by have := HBW.out.size; omega
              have y1 := (hqk.cell (p := ⟨b, off + j, none⟩) hbwc hbne).trans ((HBW.out.cell (p := ⟨b, off + j, none⟩) hbl).trans (HCC.out j (by omega)))
              have y2 := (hqk.cell (p := ⟨b, off + (j + 1), none⟩) hbwc hbne).trans ((HBW.out.cell (p := ⟨b, off + (j + 1), none⟩) hbl).trans (HCC.out (j + 1) (by omega)))
              have hp := HFA.out q hqf
              rw [← HJ.out] at hp
              obtain ⟨x1, hx1⟩ : ∃ x1, ss.getD j [] = x1 := ⟨_, rfl⟩
              obtain ⟨x2, hx2⟩ : ∃ x2, ss.getD (j + 1) [] = x2 := ⟨_, rfl⟩
              rw [hx1] at y1
              rw [hx2] at y2
              rw [hx1, hx2] at hp
              have hp1 : (fs.getD q ([], [])).1 = x1 := by rw [hp]
              have hp2 : (fs.getD q ([], [])).2 = x2 := by rw [hp]
              have tj : ((j : Int) + 1).toNat = j + 1 := by omega
              have tj1 : ¬ (j : Int) + 1 < 0 := by omega
              have tj2 : (0 : Int) ≤ (j : Int) + 1 := by omega
              have HS0 : wr.drew.cell? ⟨Bc, 2, none⟩ = some (.slice a2 q c2) ∧ wr.drew.cell? ⟨b, off + j, none⟩ = some (.string ⟨x1.toArray⟩) ∧ wr.drew.cell? ⟨b, off + (j + 1), none⟩ = some (.string ⟨x2.toArray⟩) := ⟨(World.cell?_drew _ _).trans hqx.at.2.2.1, (World.cell?_drew _ _).trans y1, (World.cell?_drew _ _).trans y2⟩
              have hnb : some b ≠ (Value.slice a2 q c2).ownBlock := fun e => by have := (hqo.lt _ e.symm).1; omega
              have hnc : some Bc ≠ (Value.slice a2 q c2).ownBlock := fun e => by have := (hqo.lt _ e.symm).1; omega
              have hzr1 : wc.heap.size ≤ wr.heap.size := hqk.size
              clear y1 y2 hp hx1 hx2
              go_upto_region 20 with (fail)
              refine wp_region_L (S := (fun W => W.cell? ⟨Bc, 2, none⟩ = some (.slice a2 q c2) ∧ W.cell? ⟨b, off + j, none⟩ = some (.string ⟨x1.toArray⟩) ∧ W.cell? ⟨b, off + (j + 1), none⟩ = some (.string ⟨x2.toArray⟩))) (f := 15) (by kernel_rfl) ?_
              refine wpAnyL_take (i := 0) (some 88) (v := .pointer (some ⟨Bc, 2, none⟩)) rfl rfl (by kernel_rfl) (by kernel_rfl) (by kernel_rfl) (by kernel_rfl) (fun _ _ _ h => h) (by rfl) (fun W hS => ?_) HS0 ?_
              · obtain ⟨m0, m1, m2⟩ := hS
                go_simp
              try simp only [Act.put, List.setIfInBounds_toArray, List.set_cons_zero, List.set_cons_succ]
              refine wpAnyL_take (i := 1) (some 89) (v := .slice a2 q c2) rfl rfl (by kernel_rfl) (by kernel_rfl) (by kernel_rfl) (by kernel_rfl) (fun _ _ _ h => h) (by rfl) (fun W hS => ?_) HS0 ?_
              · obtain ⟨m0, m1, m2⟩ := hS
                go_simp
              try simp only [Act.put, List.setIfInBounds_toArray, List.set_cons_zero, List.set_cons_succ]
              refine wpAnyL_take (i := 2) (some 90) (v := .slice (some ⟨b, off, none⟩) ss.length c4) rfl rfl (by kernel_rfl) (by kernel_rfl) (by kernel_rfl) (by kernel_rfl) (fun _ _ _ h => h) (by rfl) (fun W hS => ?_) HS0 ?_
              · obtain ⟨m0, m1, m2⟩ := hS
                go_simp
              try simp only [Act.put, List.setIfInBounds_toArray, List.set_cons_zero, List.set_cons_succ]
              refine wpAnyL_take (i := 3) (some 91) (v := .int .i64 (j : Int)) rfl rfl (by kernel_rfl) (by kernel_rfl) (by kernel_rfl) (by kernel_rfl) (fun _ _ _ h => h) (by rfl) (fun W hS => ?_) HS0 ?_
              · obtain ⟨m0, m1, m2⟩ := hS
                go_simp
              try simp only [Act.put, List.setIfInBounds_toArray, List.set_cons_zero, List.set_cons_succ]
              refine wpAnyL_take (i := 4) (some 92) (v := .pointer (some ⟨b, off + j, none⟩)) rfl rfl (by kernel_rfl) (by kernel_rfl) (by kernel_rfl) (by kernel_rfl) (fun _ _ _ h => h) (by rfl) (fun W hS => ?_) HS0 ?_
              · obtain ⟨m0, m1, m2⟩ := hS
                go_simp
              try simp only [Act.put, List.setIfInBounds_toArray, List.set_cons_zero, List.set_cons_succ]
              refine wpAnyL_take (i := 5) (some 93) (v := .string ⟨x1.toArray⟩) rfl rfl (by kernel_rfl) (by kernel_rfl) (by kernel_rfl) (by kernel_rfl) (fun _ _ _ h => h) (by rfl) (fun W hS => ?_) HS0 ?_
              · obtain ⟨m0, m1, m2⟩ := hS
                go_simp
              try simp only [Act.put, List.setIfInBounds_toArray, List.set_cons_zero, List.set_cons_succ]
              refine wpAnyL_take (i := 6) (some 94) (v := .slice (some ⟨b, off, none⟩) ss.length c4) rfl rfl (by kernel_rfl) (by kernel_rfl) (by kernel_rfl) (by kernel_rfl) (fun _ _ _ h => h) (by rfl) (fun W hS => ?_) HS0 ?_
              · obtain ⟨m0, m1, m2⟩ := hS
                go_simp
              try simp only [Act.put, List.setIfInBounds_toArray, List.set_cons_zero, List.set_cons_succ]
              refine wpAnyL_take (i := 7) (some 95) (v := .int .i64 (j : Int)) rfl rfl (by kernel_rfl) (by kernel_rfl) (by kernel_rfl) (by kernel_rfl) (fun _ _ _ h => h) (by rfl) (fun W hS => ?_) HS0 ?_
              · obtain ⟨m0, m1, m2⟩ := hS
                go_simp
              try simp only [Act.put, List.setIfInBounds_toArray, List.set_cons_zero, List.set_cons_succ]
              refine wpAnyL_take (i := 8) (some 96) (v := .int .i64 ((j : Int) + 1)) rfl rfl (by kernel_rfl) (by kernel_rfl) (by kernel_rfl) (by kernel_rfl) (fun _ _ _ h => h) (by rfl) (fun W hS => ?_) HS0 ?_
              · obtain ⟨m0, m1, m2⟩ := hS
                go_simp
              try simp only [Act.put, List.setIfInBounds_toArray, List.set_cons_zero, List.set_cons_succ]
              refine wpAnyL_take (i := 9) (some 97) (v := .pointer (some ⟨b, off + (j + 1), none⟩)) rfl rfl (by kernel_rfl) (by kernel_rfl) (by kernel_rfl) (by kernel_rfl) (fun _ _ _ h => h) (by rfl) (fun W hS => ?_) HS0 ?_
              · obtain ⟨m0, m1, m2⟩ := hS
                go_simp
              try simp only [Act.put, List.setIfInBounds_toArray, List.set_cons_zero, List.set_cons_succ]
              refine wpAnyL_take (i := 10) (some 98) (v := .string ⟨x2.toArray⟩) rfl rfl (by kernel_rfl) (by kernel_rfl) (by kernel_rfl) (by kernel_rfl) (fun _ _ _ h => h) (by rfl) (fun W hS => ?_) HS0 ?_
              · obtain ⟨m0, m1, m2⟩ := hS
                go_simp
              try simp only [Act.put, List.setIfInBounds_toArray, List.set_cons_zero, List.set_cons_succ]
              refine wpAnyL_take (i := 11) (some 99) (v := .agg #[.string ⟨x1.toArray⟩, .string ⟨x2.toArray⟩]) rfl rfl (by kernel_rfl) (by kernel_rfl) (by kernel_rfl) (by kernel_rfl) (fun _ _ _ h => h) (by rfl) (fun W hS => ?_) HS0 ?_
              · obtain ⟨m0, m1, m2⟩ := hS
                go_simp
              try simp only [Act.put, List.setIfInBounds_toArray, List.set_cons_zero, List.set_cons_succ]
              refine wpAnyL_one (j := 12) (by kernel_rfl) rfl (by rfl) (fun K hK => ?_)
              refine oper_wp_val (v := .slice (some ⟨wr.heap.size, 0, none⟩) 1 1) (w' := wr.drew.alloc (.cells #[.string ⟨x1.toArray⟩, .string ⟨x2.toArray⟩] 42)) (by go_simp) ?_
              have HO2 := Lib.hid (owns_kept (S := fun _ => True) hqo ((Keeps.refl (fun _ => True) wr).drew) fun _ _ => trivial)
              have HS3 := cpSa (o := .cells #[.string ⟨x1.toArray⟩, .string ⟨x2.toArray⟩] 42) HS0
              refine hK _ _ (fun _ => HS3) ?_
              clear hK K
              try simp only [Act.put, List.setIfInBounds_toArray, List.set_cons_zero, List.set_cons_succ]
              refine wpAnyL_one (j := 13) (by kernel_rfl) rfl (by rfl) (fun K hK => ?_)
              refine wp_append_lies _ (.tmp 89) (.tmp 100) 22 rfl wc.heap.size 42 iF _ 2 32 Tryz.underlying22 hiF hiF0 hiF1 hiF2 rfl (by decide) (.slice a2 q c2) q (fcells (fs.take q)) rfl (HO2.out.alloc _) ⟨wr.heap.size, 0, none⟩ 1 1 [.string ⟨x1.toArray⟩, .string ⟨x2.toArray⟩] rfl rfl (two_news wr.drew _ _ _) (two_one _ _) (by decide) (by unfold maxLen; omega) (by omega) (by simp; omega) _ rfl ?_
              intro g cap3 w5 hown3 hgrow hat hlt3
              have hk5 := cp_kept1 (Below.refl _ _) hgrow
              have hx5 : ItBox w5 Bc 2 [] a2 q c2 none 0 0 n1 := hk5.heap hqx hnc
              have HS4 := And.intro hx5.at.2.2.1 (And.intro ((hgrow.cell_far ⟨b, off + j, none⟩ (World.block_lt_of_cell? _ _ HS3.2.1) hnb).trans HS3.2.1) ((hgrow.cell_far ⟨b, off + (j + 1), none⟩ (World.block_lt_of_cell? _ _ HS3.2.2) hnb).trans HS3.2.2))
              have gf := hx5.free.2.2.1
              have HST := Lib.hid (CpF.step hBcl hqf hp1 hp2 hqk hqo hk5 hx5 hown3)
              clear hown3 hgrow hat hlt3 hk5 hx5
              refine hK _ _ (fun _ => HS4) ?_
              clear hK K
              try simp only [Act.put, List.setIfInBounds_toArray, List.set_cons_zero, List.set_cons_succ]
              refine wpAnyL_take (i := 14) (some 102) (v := .pointer (some ⟨Bc, 2, none⟩)) rfl rfl (by kernel_rfl) (by kernel_rfl) (by kernel_rfl) (by kernel_rfl) (fun _ _ _ h => h) (by rfl) (fun W hS => ?_) HS4 ?_
              · obtain ⟨m0, m1, m2⟩ := hS
                go_simp
              try simp only [Act.put, List.setIfInBounds_toArray, List.set_cons_zero, List.set_cons_succ]
              have g00 := HS4.1
              refine wpAnyL_one (j := 15) (by kernel_rfl) rfl (by rfl) (fun K hK => ?_)
              go_simp
              refine hK _ _ (fun h => (h rfl).elim) ?_
              clear hK K
              try simp only [Act.put, List.setIfInBounds_toArray, List.set_cons_zero, List.set_cons_succ]
              refine wpAnyL_done (by kernel_rfl) ?_ _
              have ewj2 : IntKind.i64.wrap ((j : Int) + 2) = (j : Int) + 2 := IntWalk.i64_in _ (by omega)
              go_wp2_with fail
              go_roundw
              case rel => exact ⟨q + 1, j + 2, by go_num, by omega, Lib.hid (by have := HJ.out; omega), HST⟩
              case measure => simp [intOf]; omega
            · have hltI : ¬ (j : Int) + 1 < (ss.length : Int) := by omega
              obtain rfl : q = fs.length := by have := HJ.out; have := HFL0.out; omega
              obtain ⟨a2, c2, hqx, hqo, hqk⟩ := HQ.out
              rw [List.take_length] at hqo
              obtain ⟨a2', c2', e, hFd, -⟩ := fds_of_row hqo (fun p hp => by have := HFB.out p hp; omega)
              injection e with e1 e2 e3
              subst e1 e3
              have HFf : Hid (∀ b o, a2 = some ⟨b, o, none⟩ → w.heap.size < b) := Lib.hid (by rintro b o rfl; have := (hqo.lt b rfl).1; omega)
              have hz8 : Gz w wr := HZc.out.keep hqk (by omega) (by omega)
              clear HQ HJ HFA HFB HCC HWD hqo hqk
              go_upto_region 21 with (fail)
              have hpu := rput_any 2 n1 [] a2 c2 fs none 0 [] wr hFd (wds_nil wr) (fun _ => rfl)
              obtain ⟨b0, b1, b2, b3, b4⟩ := (hqx).at
              have hfar : ∀ b7 o7, (a2 : Option Addr) = some ⟨b7, o7, none⟩ → w.heap.size < b7 := HFf.out
              have hfar2 : ∀ b7 o7, (none : Option Addr) = some ⟨b7, o7, none⟩ → w.heap.size < b7 := fun b o h => (by cases h)
              have HFF := Lib.hid (And.intro hfar hfar2)
              have HFL := Lib.hid (And.intro (hFd) ((wds_nil wr)))
              have HGG := Lib.hid (hz8)
              have HGR : Hid (getR X ⟨2, [], fs, [], n1⟩ = G) := Lib.hid (HGI)
              clear hfar hfar2
              by_cases hp : Dp.putS ⟨2, [], fs, [], n1⟩ = X
              · obtain rfl : G = some ⟨2, [], fs, [], n1⟩ := HGR.out.symm.trans (if_pos hp)
                rw [hp] at hpu
                unfold itv at hpu
                simp only [List.length_nil] at hpu
                have HPu := Lib.hid hpu
                clear hpu hp HGR HGI
                go_wp2_with fail
                refine HPu.out.mono ?_
                rintro e w9 ⟨rfl, hb9⟩
                have hx9 := (hqx).later hb9
                obtain ⟨b0, b1, b2, b3, b4⟩ := hx9.at
                have hz9 := HGG.out.later hb9
                obtain ⟨⟨z0, z1, z2, z3, z4, z5⟩, f0, f1, f2, f3, f4, f5⟩ := hz9.1.at
                have hks : Keeps (fun j => j ≠ w.heap.size) w9 (stGb w9 w.heap.size 2 [] a2 fs.length c2 none 0 0 n1 true) := (Keeps.refl _ w9).stGb (.inr fun h => h rfl) 2 [] a2 fs.length c2 none 0 0 n1 true
                have HS := Lib.hid (And.intro (hz9.1.store 2 [] a2 fs.length c2 none 0 0 n1 true) (below_stGb hz9.2 (Nat.le_refl _) 2 [] a2 fs.length c2 none 0 0 n1 true))
                have HE := Lib.hid (And.intro ((HFL.out.1.later hb9).farR hks HFF.out.1) ((HFL.out.2.later hb9).farR hks HFF.out.2))
                clear hx9 hz9 hks hb9 HPu HGG HFL HFF
                go_wp2
                exact bodyPost_ret (results_cell rfl rfl (loadGb HS.out.1)) rfl ⟨HS.out.2, a2, c2, none, 0, rfl, HE.out.1, HE.out.2⟩
              · obtain rfl : G = none := HGR.out.symm.trans (if_neg hp)
                obtain ⟨P, hP⟩ : ∃ P : List UInt8, Dp.putS ⟨2, [], fs, [], n1⟩ = P := ⟨_, rfl⟩
                rw [hP] at hp hpu
                have hpb : (P == X) = false := beq_eq_false_iff_ne.2 hp
                unfold itv at hpu
                simp only [List.length_nil] at hpu
                have HPu := Lib.hid hpu
                clear hpu hP HGR HGI
                go_wp2_with fail
                refine HPu.out.mono ?_
                rintro e w9 ⟨rfl, hb9⟩
                have hz9 := HGG.out.later hb9
                obtain ⟨⟨z0, z1, z2, z3, z4, z5⟩, f0, f1, f2, f3, f4, f5⟩ := hz9.1.at
                have HS := Lib.hid (And.intro (hz9.1.store 0 [] none 0 0 none 0 0 0 false) (below_stGb hz9.2 (Nat.le_refl _) 0 [] none 0 0 none 0 0 0 false))
                clear hz9 hb9 HPu HGG HFL HFF
                go_wp2
                exact bodyPost_ret (results_cell rfl rfl (loadGb HS.out.1)) rfl ⟨HS.out.2, rfl⟩
        · have hk2b : (n0 == 2) = false := by rw [beq_eq_false_iff_ne]; exact hk2
          obtain ⟨dl, hdl⟩ : ∃ dl, ss.drop 2 = dl := ⟨_, rfl⟩
          have hdll : ss.length - 2 = dl.length := by rw [← hdl, List.length_drop]
          have HGI : getR X ⟨n0, [], [], dl, n1⟩ = G := by have h := HG2.out; unfold Dp.candI at h; rw [if_neg hk1, if_neg hk2, hdl] at h; exact h
          have hwd2 := (HWD.out.drop 2 (by omega) (by omega)).later HBW.out
          rw [hdl] at hwd2
          have hx1 := HCB.out.set3 (some ⟨b, off + 2, none⟩) dl.length (c4 - 2)
          obtain ⟨w8, hw8⟩ : ∃ w8, wc.setCell ⟨Bc, 3, none⟩ (.slice (some ⟨b, off + 2, none⟩) dl.length (c4 - 2)) = w8 := ⟨_, rfl⟩
          have hkw : Keeps (fun j => j ≠ Bc) wc w8 := by rw [← hw8]; exact (Keeps.refl _ wc).setCell (.inr fun h => h rfl) _
          have hz8 : Gz w w8 := HZc.out.keep hkw (by omega) (by omega)
          have hwd8 : Wds w8 (some ⟨b, off + 2, none⟩) (c4 - 2) dl := hwd2.keep hkw.size fun b2 o e hlt => hkw.block b2 hlt (by cases e; omega)
          rw [hw8] at hx1
          have HW8 := Lib.hid hw8
          have HLf : Hid (∀ b2 o, (some ⟨b, off + 2, none⟩ : Option Addr) = some ⟨b2, o, none⟩ → w.heap.size < b2) := Lib.hid (by intro b2 o e; cases e; exact hbb)
          have h2I : (2 : Int) ≤ (ss.length : Int) := by omega
          have hc4I : (ss.length : Int) ≤ (c4 : Int) := by omega
          have hc4m : (c4 : Int) ≤ 9223372036854775807 := by omega
          have h2c : (2 : Int) ≤ (c4 : Int) := by omega
          have HDL := Lib.hid hdll
          clear hw8 hdl hdll hwd2 hkw HCC HWD HG2
          go_upto_region 21 with (fail)
          rw [HDL.out]
          rw [show wc.setCell ⟨Bc, 3, none⟩ (.slice (some ⟨b, off + 2, none⟩) dl.length (c4 - 2)) = w8 from HW8.out]
          clear HW8
          have hpu := rput_any n0 n1 [] none 0 [] (some ⟨b, off + 2, none⟩) (c4 - 2) dl w8 (fds_nil w8) hwd8 (fun h => by cases h)
          obtain ⟨b0, b1, b2, b3, b4⟩ := (hx1).at
          have hfar : ∀ b7 o7, (none : Option Addr) = some ⟨b7, o7, none⟩ → w.heap.size < b7 := fun b o h => (by cases h)
          have hfar2 : ∀ b7 o7, ((some ⟨b, off + 2, none⟩) : Option Addr) = some ⟨b7, o7, none⟩ → w.heap.size < b7 := HLf.out
          have HFF := Lib.hid (And.intro hfar hfar2)
          have HFL := Lib.hid (And.intro ((fds_nil w8)) (hwd8))
          have HGG := Lib.hid (hz8)
          have HGR : Hid (getR X ⟨n0, [], [], dl, n1⟩ = G) := Lib.hid (HGI)
          clear hfar hfar2
          by_cases hp : Dp.putS ⟨n0, [], [], dl, n1⟩ = X
          · obtain rfl : G = some ⟨n0, [], [], dl, n1⟩ := HGR.out.symm.trans (if_pos hp)
            rw [hp] at hpu
            unfold itv at hpu
            simp only [List.length_nil] at hpu
            have HPu := Lib.hid hpu
            clear hpu hp HGR HGI
            go_wp2_with fail
            refine HPu.out.mono ?_
            rintro e w9 ⟨rfl, hb9⟩
            have hx9 := (hx1).later hb9
            obtain ⟨b0, b1, b2, b3, b4⟩ := hx9.at
            have hz9 := HGG.out.later hb9
            obtain ⟨⟨z0, z1, z2, z3, z4, z5⟩, f0, f1, f2, f3, f4, f5⟩ := hz9.1.at
            have hks : Keeps (fun j => j ≠ w.heap.size) w9 (stGb w9 w.heap.size n0 [] none 0 0 (some ⟨b, off + 2, none⟩) dl.length (c4 - 2) n1 true) := (Keeps.refl _ w9).stGb (.inr fun h => h rfl) n0 [] none 0 0 (some ⟨b, off + 2, none⟩) dl.length (c4 - 2) n1 true
            have HS := Lib.hid (And.intro (hz9.1.store n0 [] none 0 0 (some ⟨b, off + 2, none⟩) dl.length (c4 - 2) n1 true) (below_stGb hz9.2 (Nat.le_refl _) n0 [] none 0 0 (some ⟨b, off + 2, none⟩) dl.length (c4 - 2) n1 true))
            have HE := Lib.hid (And.intro ((HFL.out.1.later hb9).farR hks HFF.out.1) ((HFL.out.2.later hb9).farR hks HFF.out.2))
            clear hx9 hz9 hks hb9 HPu HGG HFL HFF
            go_wp2
            exact bodyPost_ret (results_cell rfl rfl (loadGb HS.out.1)) rfl ⟨HS.out.2, none, 0, (some ⟨b, off + 2, none⟩), (c4 - 2), rfl, HE.out.1, HE.out.2⟩
          · obtain rfl : G = none := HGR.out.symm.trans (if_neg hp)
            obtain ⟨P, hP⟩ : ∃ P : List UInt8, Dp.putS ⟨n0, [], [], dl, n1⟩ = P := ⟨_, rfl⟩
            rw [hP] at hp hpu
            have hpb : (P == X) = false := beq_eq_false_iff_ne.2 hp
            unfold itv at hpu
            simp only [List.length_nil] at hpu
            have HPu := Lib.hid hpu
            clear hpu hP HGR HGI
            go_wp2_with fail
            refine HPu.out.mono ?_
            rintro e w9 ⟨rfl, hb9⟩
            have hz9 := HGG.out.later hb9
            obtain ⟨⟨z0, z1, z2, z3, z4, z5⟩, f0, f1, f2, f3, f4, f5⟩ := hz9.1.at
            have HS := Lib.hid (And.intro (hz9.1.store 0 [] none 0 0 none 0 0 0 false) (below_stGb hz9.2 (Nat.le_refl _) 0 [] none 0 0 none 0 0 0 false))
            clear hz9 hb9 HPu HGG HFL HFF
            go_wp2
            exact bodyPost_ret (results_cell rfl rfl (loadGb HS.out.1)) rfl ⟨HS.out.2, rfl⟩
end Go.Proofs.YtbkhnnjjpelfcaaGreatDoor
