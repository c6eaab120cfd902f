/- The box of what the reference got: an item, or none. The contract of the reference's Raw (11.1). -/
import Derived.Test.YtahmddopbmjepaaDoorRC11
import Derived.Maps.OwnIn
import Derived.Test.YtahmddopbmjepaaDoorRC12
import Derived.Test.YtahmddopbmjepaaDoorRC19
import Derived.Test.YtahmddopbmjepaaDoorRC13
namespace Go.Proofs.YtahmddopbmjepaaDoor
open Go.RowKit Go.Shelf
set_option linter.unusedVariables false
set_option linter.unusedSimpArgs false

/-- the result's box. -/
def Gb (W : World) (B : Nat) (k : Int) (s : List UInt8) (aF : Option Addr) (nF cF : Nat) (aL : Option Addr) (nL cL : Nat) (x : Int) (b : Bool) : Prop :=
  W.heap[B]? = some (.cells #[.int .i64 k, .string ⟨s.toArray⟩, .slice aF nF cF, .slice aL nL cL, .int .i64 x, .bool b] 75 (0, 0))
def stGb (w : World) (B : Nat) (k : Int) (s : List UInt8) (aF : Option Addr) (nF cF : Nat) (aL : Option Addr) (nL cL : Nat) (x : Int) (b : Bool) : World :=
  (((((w.setCell ⟨B, 0, none⟩ (.int .i64 k)).setCell ⟨B, 1, none⟩ (.string ⟨s.toArray⟩)).setCell ⟨B, 2, none⟩ (.slice aF nF cF)).setCell ⟨B, 3, none⟩ (.slice aL nL cL)).setCell ⟨B, 4, none⟩ (.int .i64 x)).setCell ⟨B, 5, none⟩ (.bool b)
theorem Gb.lt {W : World} {B : Nat} {k : Int} {s : List UInt8} {aF : Option Addr} {nF cF : Nat} {aL : Option Addr} {nL cL : Nat} {x : Int} {b : Bool} (h : Gb W B k s aF nF cF aL nL cL x b) : B < W.heap.size := (Array.getElem?_eq_some_iff.1 h).1
theorem Gb.at {W : World} {B : Nat} {k : Int} {s : List UInt8} {aF : Option Addr} {nF cF : Nat} {aL : Option Addr} {nL cL : Nat} {x : Int} {b : Bool} (h : Gb W B k s aF nF cF aL nL cL x b) :
    (W.cell? ⟨B, 0, none⟩ = some (.int .i64 k) ∧ W.cell? ⟨B, 1, none⟩ = some (.string ⟨s.toArray⟩) ∧ W.cell? ⟨B, 2, none⟩ = some (.slice aF nF cF) ∧ W.cell? ⟨B, 3, none⟩ = some (.slice aL nL cL) ∧ W.cell? ⟨B, 4, none⟩ = some (.int .i64 x) ∧ W.cell? ⟨B, 5, none⟩ = some (.bool b)) ∧
    (W.frozen? ⟨B, 0, none⟩ = false ∧ W.frozen? ⟨B, 1, none⟩ = false ∧ W.frozen? ⟨B, 2, none⟩ = false ∧ W.frozen? ⟨B, 3, none⟩ = false ∧ W.frozen? ⟨B, 4, none⟩ = false ∧ W.frozen? ⟨B, 5, none⟩ = false) := by
  unfold Gb at h
  simp [World.cell?, World.frozen?, h]
theorem Gb.store {W : World} {B : Nat} {k0 : Int} {s0 : List UInt8} {a0 : Option Addr} {n0 c0 : Nat} {a1 : Option Addr} {n1 c1 : Nat} {x0 : Int} {b0 : Bool} (h : Gb W B k0 s0 a0 n0 c0 a1 n1 c1 x0 b0) (k : Int) (s : List UInt8) (aF : Option Addr) (nF cF : Nat) (aL : Option Addr) (nL cL : Nat) (x : Int) (b : Bool) :
    Gb (stGb W B k s aF nF cF aL nL cL x b) B k s aF nF cF aL nL cL x b := by
  unfold Gb at h ⊢
  simp [stGb, World.setCell, Array.getElem?_modify, h]
theorem Keeps.stGb {S : Nat → Prop} {A W : World} (h : Keeps S A W) {B : Nat} (hB : A.heap.size ≤ B ∨ ¬ S B) (k : Int) (s : List UInt8) (aF : Option Addr) (nF cF : Nat) (aL : Option Addr) (nL cL : Nat) (x : Int) (b : Bool) : Keeps S A (stGb W B k s aF nF cF aL nL cL x b) :=
  (((((h.setCell (p := ⟨B, 0, none⟩) hB _).setCell (p := ⟨B, 1, none⟩) hB _).setCell (p := ⟨B, 2, none⟩) hB _).setCell (p := ⟨B, 3, none⟩) hB _).setCell (p := ⟨B, 4, none⟩) hB _).setCell (p := ⟨B, 5, none⟩) hB _
theorem below_stGb {w W : World} {B : Nat} (h : Below w.heap.size w W) (hB : w.heap.size ≤ B) (k : Int) (s : List UInt8) (aF : Option Addr) (nF cF : Nat) (aL : Option Addr) (nL cL : Nat) (x : Int) (b : Bool) : Below w.heap.size w (stGb W B k s aF nF cF aL nL cL x b) :=
  (((((h.setCell (p := ⟨B, 0, none⟩) hB _).setCell (p := ⟨B, 1, none⟩) hB _).setCell (p := ⟨B, 2, none⟩) hB _).setCell (p := ⟨B, 3, none⟩) hB _).setCell (p := ⟨B, 4, none⟩) hB _).setCell (p := ⟨B, 5, none⟩) hB _
theorem loadGb {W : World} {B : Nat} {k : Int} {s : List UInt8} {aF : Option Addr} {nF cF : Nat} {aL : Option Addr} {nL cL : Nat} {x : Int} {b : Bool} (h : Gb W B k s aF nF cF aL nL cL x b) :
    (loadVar 75 ⟨B, 0, none⟩).run Tryd.prog W = .ok (.agg #[.int .i64 k, .string ⟨s.toArray⟩, .slice aF nF cF, .slice aL nL cL, .int .i64 x, .bool b]) W := by
  obtain ⟨⟨h0, h1, h2, h3, h4, h5⟩, -⟩ := h.at
  simp [loadVar, go_sem, h0, h1, h2, h3, h4, h5]
/-- zero, and what was there. -/
def Gz (w W : World) : Prop := Gb W w.heap.size 0 [] none 0 0 none 0 0 0 false ∧ Below w.heap.size w W
theorem Gz.later {w W W' : World} (h : Gz w W) (hb : Below W.heap.size W W') : Gz w W' := ⟨(hb.block _ h.1.lt).trans h.1, h.2.trans (hb.mono h.2.size)⟩
theorem Gz.new (w : World) : Gz w (w.alloc (.cells #[.int .i64 0, .string ⟨#[]⟩, .slice none 0 0, .slice none 0 0, .int .i64 0, .bool false] 75)) := ⟨World.alloc_heap_new w _, (Below.refl _ w).alloc (Nat.le_refl _) _⟩
end Go.Proofs.YtahmddopbmjepaaDoor
namespace Go.Proofs.YtahmddopbmjepaaDoor
open Go.RowKit Go.Shelf
attribute [local go_sem] Oper.semAt_some
set_option linter.unusedVariables false
set_option linter.unusedSimpArgs false

set_option maxRecDepth 100000 in
set_option maxHeartbeats 4000000 in
theorem raw_any (a : Option Addr) (cap : Nat) (ps : List Lp) (key : List UInt8) (w : World) (hP : Prs w a cap ps) (hn : ps.length ≤ 1000000) :
    Calls Tryd.prog 23 #[.slice a ps.length cap, .string ⟨key.toArray⟩] w fun e W => e = .returned (gotv (rawL ps key)) ∧ Below w.heap.size w W := by
  have HP := Lib.hid hP
  have HZ := Lib.hid (Gz.new w)
  have hnI : (ps.length : Int) ≤ 1000000 := by omega
  clear hP
  go_enter Tryd.func23, Tryd.ntmps23
  go_wp2
  go_loopw [5] (fun i wr => ∃ n : Nat, n ≤ ps.length ∧ i = .int .i64 n ∧ Hid (∀ j, j < n → (ps.getD j Lp.zero).key ≠ key) ∧ Hid (Gz w wr)) (fun i _ => ps.length - (intOf i).toNat)
  case atStart => exact ⟨0, Nat.zero_le _, rfl, Lib.hid fun j h => by omega, HZ⟩
  case round =>
    obtain ⟨n, hn', rfl, HJ, HG⟩ := hrel
    by_cases hlt : n < ps.length
    · have hP1 := HP.out.later HG.out.2
      obtain ⟨b, off, rfl, hb, hc⟩ := hP1.get (by omega)
      have hck := hc n hlt
      have HH := Lib.hid (rawL_hit ps key n hlt HJ.out)
      have HN := Lib.hid (show ¬ (ps.getD n Lp.zero).key = key → ∀ j, j < n + 1 → (ps.getD j Lp.zero).key ≠ key from fun h j hj => by
        rcases Nat.lt_or_ge j n with h' | h'
        · exact HJ.out j h'
        · rw [show j = n by omega]; exact h)
      clear hc
      obtain ⟨⟨key0, k, s, aF, fs, cF, aL, ws, cL, x⟩, hq⟩ : ∃ q, ps.getD n Lp.zero = q := ⟨_, rfl⟩
      rw [hq] at hck HH HN
      clear hq
      obtain ⟨q0, q1, q2, q3, q4, q5⟩ := hck
      simp only [] at q0 q1 q2 q3 q4 q5
      obtain ⟨⟨c0, c1, c2, c3, c4, c5⟩, z0, z1, z2, z3, z4, z5⟩ := HG.out.1.at
      have k0 : (0 : Int) ≤ (n : Int) := by omega
      have k1 : (n : Int) < (ps.length : Int) := by omega
      by_cases he : key0 = key
      · have HE := Lib.hid (HH.out he)
        have he1 : (key0 == key) = true := by simp [he]
        have he2 : (key0 != key) = false := by simp [he]
        clear he HN HH
        have HS := Lib.hid (And.intro (HG.out.1.store k s aF fs.length cF aL ws.length cL x true) (below_stGb HG.out.2 (Nat.le_refl _) k s aF fs.length cF aL ws.length cL x true))
        go_wp2
        exact bodyPost_ret (results_cell rfl rfl (loadGb HS.out.1)) rfl ⟨by rw [HE.out]; rfl, HS.out.2⟩
      · have HE := Lib.hid (HN.out he)
        have he1 : (key0 == key) = false := by simp [he]
        have he2 : (key0 != key) = true := by simp [he]
        clear he HN HH c0 c1 c2 c3 c4 c5
        go_wp2
        go_roundw
        case rel => exact ⟨n + 1, by omega, by go_num, HE, HG⟩
        case measure => simp [intOf]; omega
    · obtain rfl : n = ps.length := by omega
      have HE := Lib.hid (rawL_miss ps key HJ.out)
      obtain ⟨⟨c0, c1, c2, c3, c4, c5⟩, z0, z1, z2, z3, z4, z5⟩ := HG.out.1.at
      have k1 : ¬ (ps.length : Int) < (ps.length : Int) := by omega
      have HS := Lib.hid (And.intro (HG.out.1.store 0 [] none 0 0 none 0 0 0 false) (below_stGb HG.out.2 (Nat.le_refl _) 0 [] none 0 0 none 0 0 0 false))
      go_wp2
      exact bodyPost_ret (results_cell rfl rfl (loadGb HS.out.1)) rfl ⟨by rw [HE.out]; rfl, HS.out.2⟩

end Go.Proofs.YtahmddopbmjepaaDoor
