/- The laws' replies by numbers, as plain functions. The contract of the laws' Make. The contract of the laws' Make: arrays, and all. The contract of the reference's array. The contract of the reference's reply, and of GetReply. -/
import Derived.Test.YtbkhnnjjpelfcaaGreatDoorRpWords
import Derived.Test.YtbkhnnjjpelfcaaGreatDoorDig
import Derived.Test.YtbkhnnjjpelfcaaGreatDoorRpArray
import Derived.Test.YtbkhnnjjpelfcaaGreatDoorHeldL
import Derived.Test.YtbkhnnjjpelfcaaGreatDoorRpRefBulk
namespace Go.Proofs.YtbkhnnjjpelfcaaGreatDoor

namespace Rp
/-- what Make makes. -/
def mkF : Nat → List UInt8 → List UInt8 → R
  | 0, _, _ => .mk 5 [] 0 []
  | _ + 1, [], _ => .mk 5 [] 0 []
  | f + 1, b :: t, s =>
    if b.toNat % 6 = 0 then .mk 1 (69 :: Dig.dec (b.toNat : Int)) 0 []
    else if b.toNat % 6 = 1 then .mk 2 (69 :: Dig.dec (b.toNat : Int)) 0 []
    else if b.toNat % 6 = 2 then .mk 3 [] (((b.toNat : Int) - 128) * b.toNat * b.toNat * b.toNat) []
    else if b.toNat % 6 = 3 then .mk 4 (s.take (b.toNat / 6)) 0 []
    else if b.toNat % 6 = 4 then .mk 6 [] 0 ((List.range (min (b.toNat / 6 % 5) t.length)).map fun i => mkF f ((t.drop i).take (b.toNat / 30 % 4 + 1)) s)
    else .mk 5 [] 0 []
end Rp

end Go.Proofs.YtbkhnnjjpelfcaaGreatDoor
namespace Go.Proofs.YtbkhnnjjpelfcaaGreatDoor
open Go.RowKit Go.Shelf
attribute [local go_sem] Oper.semAt_some
set_option linter.unusedVariables false
set_option linter.unusedSimpArgs false

/-- what Make tells. -/
def MkOut (w : World) (R : Rp.R) (e : Ending) (W : World) : Prop :=
  ∃ a cap, e = .returned (rv R.k R.s R.n a R.l.length cap) ∧ Rep (fun k => w.heap.size ≤ k) W R (rv R.k R.s R.n a R.l.length cap) ∧ Below w.heap.size w W

theorem mk_store {w w1 : World} (hb : Below w.heap.size w w1) (x y z u : Value) : Below w.heap.size w (set4 w1 w.heap.size x y z u) :=
  (((hb.setCell (p := ⟨w.heap.size, 0, none⟩) (Nat.le_refl _) _).setCell (p := ⟨w.heap.size, 1, none⟩) (Nat.le_refl _) _).setCell (p := ⟨w.heap.size, 2, none⟩) (Nat.le_refl _) _).setCell (p := ⟨w.heap.size, 3, none⟩) (Nat.le_refl _) _

theorem mk_out {w w1 : World} (hb : Below w.heap.size w w1) {k n : Int} {s : List UInt8} {R : Rp.R} (hR : R = .mk k s n []) (hf : Fit k s n 0 0) :
    MkOut w R (.returned (.agg #[.int .i64 k, .string ⟨s.toArray⟩, .int .i64 n, .slice none 0 0])) (set4 w1 w.heap.size (.int .i64 k) (.string ⟨s.toArray⟩) (.int .i64 n) (.slice none 0 0)) := by
  subst hR
  exact ⟨none, 0, rfl, Rep.intro hf (.inl rfl), mk_store hb _ _ _ _⟩

theorem str_cons7 (x : UInt8) (l : List UInt8) : (⟨#[x]⟩ : ByteArray) ++ ⟨l.toArray⟩ = ⟨(x :: l).toArray⟩ := by
  apply ByteArray.ext
  simp

theorem str_take7 (s : List UInt8) {X : Int} (h : 0 ≤ X) : (⟨s.toArray⟩ : ByteArray).extract 0 (min (s.length : Int) X).toNat = ⟨(s.take X.toNat).toArray⟩ := by
  apply ByteArray.ext
  apply Array.toList_inj.1
  rw [Lib.extract_data]
  simp
  omega

theorem mkF_at {f : Nat} {b : UInt8} {t s : List UInt8} {X : Int} (hX : (b.toNat : Int) = X) :
    (X % 6 = 5 → Rp.mkF (f + 1) (b :: t) s = .mk 5 [] 0 []) ∧ (X % 6 = 0 → Rp.mkF (f + 1) (b :: t) s = .mk 1 (69 :: Dig.dec X) 0 []) ∧ (X % 6 = 1 → Rp.mkF (f + 1) (b :: t) s = .mk 2 (69 :: Dig.dec X) 0 []) ∧
    (X % 6 = 2 → Rp.mkF (f + 1) (b :: t) s = .mk 3 [] ((X - 128) * X * X * X) []) ∧ (X % 6 = 3 → Rp.mkF (f + 1) (b :: t) s = .mk 4 (s.take (X / 6).toNat) 0 []) ∧
    (X % 6 = 4 → Rp.mkF (f + 1) (b :: t) s = .mk 6 [] 0 ((List.range (min (b.toNat / 6 % 5) t.length)).map fun i => Rp.mkF f ((t.drop i).take (b.toNat / 30 % 4 + 1)) s)) := by
  subst hX
  refine ⟨fun h => ?_, fun h => ?_, fun h => ?_, fun h => ?_, fun h => ?_, fun h => ?_⟩ <;> rw [Rp.mkF]
  · rw [if_neg (by omega), if_neg (by omega), if_neg (by omega), if_neg (by omega), if_neg (by omega)]
  · rw [if_pos (by omega)]
  · rw [if_neg (by omega), if_pos (by omega)]
  · rw [if_neg (by omega), if_neg (by omega), if_pos (by omega)]
  · rw [if_neg (by omega), if_neg (by omega), if_neg (by omega), if_pos (by omega), show ((b.toNat : Int) / 6).toNat = b.toNat / 6 by omega]
  · rw [if_neg (by omega), if_neg (by omega), if_neg (by omega), if_neg (by omega), if_pos (by omega)]

theorem mk_num {X : Int} (h0 : 0 ≤ X) (h1 : X ≤ 255) : -9223372036854775808 ≤ (X - 128) * X * X * X ∧ (X - 128) * X * X * X ≤ 9223372036854775807 ∧ IntKind.i64.wrap (X - 128) = X - 128 ∧ IntKind.i64.wrap ((X - 128) * X) = (X - 128) * X ∧ IntKind.i64.wrap ((X - 128) * X * X) = (X - 128) * X * X ∧ IntKind.i64.wrap ((X - 128) * X * X * X) = (X - 128) * X * X * X := by
  have key : ∀ n : Nat, n < 256 → (-9223372036854775808 ≤ ((n : Int) - 128) * n * n * n ∧ ((n : Int) - 128) * n * n * n ≤ 9223372036854775807 ∧ IntKind.i64.wrap ((n : Int) - 128) = (n : Int) - 128 ∧ IntKind.i64.wrap (((n : Int) - 128) * n) = ((n : Int) - 128) * n ∧ IntKind.i64.wrap (((n : Int) - 128) * n * n) = ((n : Int) - 128) * n * n ∧ IntKind.i64.wrap (((n : Int) - 128) * n * n * n) = ((n : Int) - 128) * n * n * n) := by
    decide +kernel
  have := key X.toNat (by omega)
  rwa [Int.toNat_of_nonneg h0] at this

end Go.Proofs.YtbkhnnjjpelfcaaGreatDoor
namespace Go.Proofs.YtbkhnnjjpelfcaaGreatDoor
open Go.RowKit Go.Shelf
attribute [local go_sem] Oper.semAt_some
set_option linter.unusedVariables false
set_option linter.unusedSimpArgs false

/-- the array that is being filled: q replies are in it. -/
def MInv (Pb : Nat) (w2 : World) (l : List Rp.R) (q : Nat) (wr : World) : Prop :=
  ∃ a c xs, xs.length = q ∧ xs.map EV.r = l.take q ∧ wr.heap[Pb]? = some (.cells #[.int .i64 6, .string ⟨#[]⟩, .int .i64 0, .slice a q c] 45 (0, 0)) ∧ wr.ownsRow w2.heap.size 45 4 (.slice a q c) q (flat4 xs) ∧
    (∀ x ∈ xs, Rep (fun k => w2.heap.size ≤ k ∧ some k ≠ (Value.slice a q c).ownBlock) wr x.r (.agg (agg4 x).toArray)) ∧ Keeps (fun j => j ≠ Pb) w2 wr

theorem mk_kept {wr w1 w3 : World} {o2 : Obj} {v : Value} (hb1 : Below wr.drew.heap.size wr.drew w1) (hg : (w1.alloc o2).grownBy w3 v.ownBlock) : Keeps (fun j => some j ≠ v.ownBlock) wr w3 :=
  ((Keeps.refl _ wr).drew.trans (Keeps.of_below hb1 fun _ h _ => h)).trans (((Keeps.refl _ w1).alloc o2).trans (Keeps.of_grown hg fun r h1 h2 => h2 h1.symm))

theorem MInv.step {Pb : Nat} {w2 wr w1 w3 : World} {l : List Rp.R} {q : Nat} {a : Option Addr} {c : Nat} {xs : List EV} {x : EV} {g cap : Nat} (hPb : Pb < w2.heap.size) (h1 : xs.length = q) (h2 : xs.map EV.r = l.take q) (hq : q < l.length) (hlx : l[q] = x.r)
    (h3 : wr.heap[Pb]? = some (.cells #[.int .i64 6, .string ⟨#[]⟩, .int .i64 0, .slice a q c] 45 (0, 0))) (h4 : wr.ownsRow w2.heap.size 45 4 (.slice a q c) q (flat4 xs))
    (h5 : ∀ x ∈ xs, Rep (fun k => w2.heap.size ≤ k ∧ some k ≠ (Value.slice a q c).ownBlock) wr x.r (.agg (agg4 x).toArray)) (h6 : Keeps (fun j => j ≠ Pb) w2 wr)
    (hb1 : Below wr.drew.heap.size wr.drew w1) (hrep : Rep (fun k => wr.drew.heap.size ≤ k) w1 x.r (.agg (agg4 x).toArray)) (hown : w3.ownsRow w2.heap.size 45 4 (.slice (some ⟨g, 0, none⟩) (q + 1) cap) (q + 1) (flat4 xs ++ agg4 x))
    (hg : (w1.alloc (.cells (agg4 x).toArray 45)).grownBy w3 (Value.slice a q c).ownBlock) (hwh : (Value.slice a q c).ownBlock = some g ∨ g = (w1.alloc (.cells (agg4 x).toArray 45)).heap.size) :
    MInv Pb w2 l (q + 1) (w3.setCell ⟨Pb, 3, none⟩ (.slice (some ⟨g, 0, none⟩) (q + 1) cap)) := by
  have hlt : ∀ k, (Value.slice a q c).ownBlock = some k → w2.heap.size ≤ k ∧ k < wr.heap.size := fun k e => h4.lt k e
  have hsz : wr.heap.size ≤ w1.heap.size := hb1.size
  have hdz : wr.drew.heap.size = wr.heap.size := rfl
  have hza : (w1.alloc (.cells (agg4 x).toArray 45)).heap.size = w1.heap.size + 1 := by simp
  have hw2 : w2.heap.size ≤ wr.heap.size := h6.size
  have hk := mk_kept hb1 hg
  have hge : ∀ k, k < w1.heap.size → (some k ≠ (Value.slice a q c).ownBlock ∨ wr.heap.size ≤ k) → k ≠ g := by
    intro k hk1 hk2 e
    subst e
    rcases hwh with h | h
    · rcases hk2 with hk2 | hk2
      · exact hk2 h.symm
      · have := (hlt _ h).2; omega
    · omega
  have hk1 : Keeps (fun k => wr.drew.heap.size ≤ k) w1 w3 := ((Keeps.refl _ w1).alloc _).trans (Keeps.of_grown hg fun r e h => by have := (hlt r e).2; rw [hdz] at h; omega)
  have hself : (Value.slice (some (⟨g, 0, none⟩ : Addr)) (q + 1) cap).ownBlock = some g := rfl
  refine ⟨some ⟨g, 0, none⟩, cap, xs ++ [x], by simp [h1], ?_, ?_, ?_, ?_, ?_⟩
  · rw [List.map_append, h2, List.take_succ_eq_append_getElem hq, hlx]
    rfl
  · have hp : w3.heap[Pb]? = some (.cells #[.int .i64 6, .string ⟨#[]⟩, .int .i64 0, .slice a q c] 45 (0, 0)) := hk.heap h3 (fun e => by have := (hlt _ e.symm).1; omega)
    simp [World.setCell, Array.getElem?_modify, hp]
  · rw [flat4_snoc]
    refine owns_kept (S := fun j => j ≠ Pb) hown ((Keeps.refl _ w3).setCell (.inr fun h => h rfl) _) fun k e => ?_
    have := (hown.lt k e).1
    omega
  · intro y hy
    have hset : Keeps (fun k => w2.heap.size ≤ k ∧ some k ≠ some g) w3 (w3.setCell ⟨Pb, 3, none⟩ (.slice (some ⟨g, 0, none⟩) (q + 1) cap)) := (Keeps.refl _ w3).setCell (.inr fun h => by have h := h.1; simp at h; omega) _
    rw [hself]
    refine Rep.keeps hset (fun k h _ => h) _ _ ?_
    rcases List.mem_append.1 hy with hy | hy
    · have hyr := h5 y hy
      refine Rep.keeps (S := fun k => w2.heap.size ≤ k ∧ some k ≠ (Value.slice a q c).ownBlock) (hk.mono fun _ _ h => h.2) (fun k h hlt' => ⟨h.1, fun e => ?_⟩) _ _ hyr
      injection e with e
      exact hge k (by omega) (.inl h.2) e
    · simp at hy
      subst hy
      refine Rep.keeps hk1 (fun k h hlt' => ⟨by rw [hdz] at h; omega, fun e => ?_⟩) _ _ hrep
      injection e with e
      exact hge k hlt' (.inr (by rw [hdz] at h; omega)) e
  · exact (h6.trans_lt hk fun i hi _ e => by have := (hlt i e.symm).1; omega).setCell (p := ⟨Pb, 3, none⟩) (.inr fun h => h rfl) _

theorem four_news (w : World) (x y z u : Value) : ∀ (j : Nat) (v : Value), [x, y, z, u][j]? = some v → (w.alloc (.cells #[x, y, z, u] 45)).cell? ((⟨w.heap.size, 0, none⟩ : Addr).add j) = some v :=
  fun j v h => World.news_of_block (World.alloc_heap_new w (.cells #[x, y, z, u] 45)) j v h

theorem sub_len {b : UInt8} {t : List UInt8} {N q K h : Nat} (hN : (b :: t).length = N) (hq : q + 1 < N) (hh : h = min N (q + 1 + K)) : ((t.drop q).take K).length = h - (q + 1) := by
  simp at hN
  simp
  omega

theorem sub_bt {w : World} {bb off cap : Nat} {b : UInt8} {t : List UInt8} (hb : Bt (fun _ => True) w (some ⟨bb, off, none⟩) cap (b :: t)) {q K : Nat} (hq : q + 1 < (b :: t).length) : Bt (fun _ => True) w (some ⟨bb, off + (q + 1), none⟩) (cap - (q + 1)) ((t.drop q).take K) := by
  have h := (hb.from (n := q + 1) (by omega)).to K
  have := hb.1
  rw [if_neg (by omega)] at h
  simpa [Addr.add] using h

end Go.Proofs.YtbkhnnjjpelfcaaGreatDoor
namespace Go.Proofs.YtbkhnnjjpelfcaaGreatDoor
open Go.RowKit Go.Shelf
attribute [local go_sem] Oper.semAt_some
set_option linter.unusedVariables false
set_option linter.unusedSimpArgs false

/-- what is told of a reply read. -/
def RdR (n : Nat) (w : World) (o : Rp.Out Rp.R) (e : Ending) (W : World) : Prop :=
  Below w.heap.size w W ∧ match o with
    | .ok r t => ∃ a cap, e = .returned (.agg #[.int .i64 r.k, .string ⟨r.s.toArray⟩, .int .i64 r.n, .slice a r.l.length cap, .int .i64 ((n : Int) - (t.length : Int)), .int .i64 0]) ∧ Rep (fun k => w.heap.size ≤ k) W r (rv r.k r.s r.n a r.l.length cap)
    | .err c => c ≠ 0 ∧ e = .returned (badV c)

theorem suffix_at {B x t : List UInt8} {j : Nat} (h : B.drop j = x ++ t) (hj : j ≤ B.length) : t.length ≤ B.length - j ∧ B.drop (B.length - t.length) = t := by
  have e2 := congrArg List.length h
  rw [List.length_drop, List.length_append] at e2
  refine ⟨by omega, ?_⟩
  have e3 : (B.drop j).drop x.length = t := by rw [h, List.drop_left]
  rw [List.drop_drop, show j + x.length = B.length - t.length by omega] at e3
  exact e3

theorem below_undrew {wr W : World} (h : Below wr.heap.size wr W) : Below wr.drew.heap.size wr.drew W := ⟨h.os, h.tape, h.output, h.size, h.block⟩

set_option maxRecDepth 100000 in
set_option maxHeartbeats 8000000 in
theorem array_bad (B : List UInt8) (at_ : Nat) (w : World) :
    Calls Tryz.prog 56 #[.string ⟨B.toArray⟩, .int .i64 (at_ : Int), .int .i64 0] w (RdR B.length w (.err 5)) := by
  obtain ⟨w1, hw1⟩ : ∃ w1, w.alloc (.cells #[.int .i64 0, .string ⟨#[]⟩, .int .i64 0, .slice none 0 0, .int .i64 0, .int .i64 0] 51) = w1 := ⟨_, rfl⟩
  have hz : Rd6 w1 w.heap.size (.int .i64 0) (.string ⟨#[]⟩) (.int .i64 0) (.slice none 0 0) (.int .i64 0) (.int .i64 0) := by rw [← hw1]; exact Rd6.new w _ _ _ _ _ _
  have hb1 : Below w.heap.size w w1 := by rw [← hw1]; exact (Below.refl _ w).alloc (Nat.le_refl _) _
  have hsz : w1.heap.size = w.heap.size + 1 := by rw [← hw1]; simp
  have HW1 := Lib.hid hw1
  have HZ := Lib.hid hz
  have HB := Lib.hid hb1
  clear hw1 hz hb1
  go_enter Tryz.func56, Tryz.ntmps56
  go_upto_region 1 with (fail)
  rw [show w.alloc (.cells #[.int .i64 0, .string ⟨#[]⟩, .int .i64 0, .slice none 0 0, .int .i64 0, .int .i64 0] 51) = w1 from HW1.out]
  clear HW1
  go_wp2_with fail
  refine (bad_any 5 w1).mono ?_
  rintro e wb ⟨rfl, hbb⟩
  unfold badV
  have HZb := Lib.hid (HZ.out.later hbb)
  have HBb := Lib.hid (HB.out.trans (hbb.mono HB.out.size))
  obtain ⟨z0, z1, z2, z3, z4, z5⟩ := HZb.out.cells
  obtain ⟨f0, f1, f2, f3, f4, f5⟩ := HZb.out.cells'
  clear hbb
  go_wp2
  have hs := HZb.out.set (.int .i64 0) (.string ⟨#[]⟩) (.int .i64 0) (.slice none 0 0) (.int .i64 0) (.int .i64 5)
  have hb := set6_below HBb.out (b := w.heap.size) (by omega) (.int .i64 0) (.string ⟨#[]⟩) (.int .i64 0) (.slice none 0 0) (.int .i64 0) (.int .i64 5)
  show bodyPost _ _ _ .ret _ (set6 wb (w.heap.size) (.int .i64 0) (.string ⟨#[]⟩) (.int .i64 0) (.slice none 0 0) (.int .i64 0) (.int .i64 5))
  generalize set6 wb (w.heap.size) (.int .i64 0) (.string ⟨#[]⟩) (.int .i64 0) (.slice none 0 0) (.int .i64 0) (.int .i64 5) = wend at hs hb
  exact bodyPost_ret (results_cell rfl rfl (loadRd hs)) rfl ⟨hb, by decide, rfl⟩

set_option maxRecDepth 100000 in
set_option maxHeartbeats 8000000 in
theorem array_ref (B : List UInt8) (f : List UInt8 → Rp.Out Rp.R) (d at_ : Nat) (w : World) (hl : B.length ≤ 3000) (hi : at_ ≤ B.length) (hd : d ≤ 8) (hinv : ∀ b r t, f b = .ok r t → b = Rp.enc r ++ t)
    (hF : ∀ k, k ≤ B.length → ∀ w, Calls Tryz.prog 35 #[.string ⟨B.toArray⟩, .int .i64 (k : Int), .int .i64 (d : Int)] w (RdR B.length w (f (B.drop k)))) :
    Calls Tryz.prog 56 #[.string ⟨B.toArray⟩, .int .i64 (at_ : Int), .int .i64 ((d : Int) + 1)] w (RdR B.length w (Rp.arrD f (B.drop at_))) := by
  have hlI : (B.length : Int) ≤ 3000 := by omega
  have d0 : (0 : Int) ≤ (d : Int) := by omega
  have d8 : (d : Int) ≤ 8 := by omega
  have a0 : (0 : Int) ≤ (at_ : Int) := by omega
  have aL : (at_ : Int) ≤ (B.length : Int) := by omega
  have hd1 : ¬ (d : Int) + 1 < 1 := by omega
  have wd1 : IntKind.i64.wrap ((d : Int) + 1 - 1) = (d : Int) := by rw [IntWalk.i64_in _ (by omega)]; omega
  have hN := number_form B at_ false 65536 hl hi (by decide) (by decide)
  obtain ⟨nn0, nx0, ex0, hrd, hcall⟩ := hN
  have HF := Lib.hid hF
  have HINV := Lib.hid hinv
  have HCALL := Lib.hid hcall
  clear hcall hF hinv
  have hdef : Rp.arrD f (B.drop at_) = (Rp.refN false 65536 (B.drop at_)).bind fun n r => (Rp.manyP f n.toNat r).map fun l => .mk 6 [] 0 l := by
    rw [Rp.refN_up (by decide)]; rfl
  cases hR : Rp.refN false 65536 (B.drop at_) with
  | err c =>
    rw [hR] at hrd hdef
    obtain ⟨hc0, rfl, rfl, rfl⟩ := hrd
    rw [hdef]
    have hcb : (ex0 != 0) = true := by simp [hc0]
    clear hR hdef
    obtain ⟨w1, hw1⟩ : ∃ w1, w.alloc (.cells #[.int .i64 0, .string ⟨#[]⟩, .int .i64 0, .slice none 0 0, .int .i64 0, .int .i64 0] 51) = w1 := ⟨_, rfl⟩
    have hz : Rd6 w1 w.heap.size (.int .i64 0) (.string ⟨#[]⟩) (.int .i64 0) (.slice none 0 0) (.int .i64 0) (.int .i64 0) := by rw [← hw1]; exact Rd6.new w _ _ _ _ _ _
    have hb1 : Below w.heap.size w w1 := by rw [← hw1]; exact (Below.refl _ w).alloc (Nat.le_refl _) _
    have hsz : w1.heap.size = w.heap.size + 1 := by rw [← hw1]; simp
    have HW1 := Lib.hid hw1
    have HZ := Lib.hid hz
    have HB := Lib.hid hb1
    clear hw1 hz hb1
    go_enter Tryz.func56, Tryz.ntmps56
    go_upto_region 1 with (fail)
    rw [show w.alloc (.cells #[.int .i64 0, .string ⟨#[]⟩, .int .i64 0, .slice none 0 0, .int .i64 0, .int .i64 0] 51) = w1 from HW1.out]
    clear HW1
    go_wp2_with fail
    refine (HCALL.out w1).mono ?_
    rintro e w2 ⟨rfl, hb2⟩
    go_upto_region 4 with (fail)
    obtain ⟨w3, hw3⟩ : ∃ w3, w2.alloc (.cells #[.int .i64 0, .string ⟨#[]⟩, .int .i64 0, .slice none 0 0, .int .i64 0, .int .i64 ex0] 51) = w3 := ⟨_, rfl⟩
    have hyy := Rd6.new w2 (.int .i64 0) (.string ⟨#[]⟩) (.int .i64 0) (.slice none 0 0) (.int .i64 0) (.int .i64 ex0)
    have hb3 : Below w2.heap.size w2 w3 := by rw [← hw3]; exact (Below.refl _ w2).alloc (Nat.le_refl _) _
    have hs3 : w3.heap.size = w2.heap.size + 1 := by rw [← hw3]; simp
    rw [hw3] at hyy ⊢
    obtain ⟨y0, y1, y2, y3, y4, y5⟩ := hyy.cells
    have HZ3 := Lib.hid ((HZ.out.later hb2).later hb3)
    have HB3 := Lib.hid ((HB.out.trans (hb2.mono HB.out.size)).trans (hb3.mono (HB.out.trans (hb2.mono HB.out.size)).size))
    have hz2 : w1.heap.size ≤ w2.heap.size := hb2.size
    clear hw3 hb2 hb3
    go_upto_region 5 with (fail)
    obtain ⟨z0, z1, z2, z3, z4, z5⟩ := HZ3.out.cells
    obtain ⟨f0, f1, f2, f3, f4, f5⟩ := HZ3.out.cells'
    clear hyy
    go_wp2
    have hs := HZ3.out.set (.int .i64 0) (.string ⟨#[]⟩) (.int .i64 0) (.slice none 0 0) (.int .i64 0) (.int .i64 ex0)
    have hb := set6_below HB3.out (b := w.heap.size) (by omega) (.int .i64 0) (.string ⟨#[]⟩) (.int .i64 0) (.slice none 0 0) (.int .i64 0) (.int .i64 ex0)
    show bodyPost _ _ _ .ret _ (set6 w3 (w.heap.size) (.int .i64 0) (.string ⟨#[]⟩) (.int .i64 0) (.slice none 0 0) (.int .i64 0) (.int .i64 ex0))
    generalize set6 w3 (w.heap.size) (.int .i64 0) (.string ⟨#[]⟩) (.int .i64 0) (.slice none 0 0) (.int .i64 0) (.int .i64 ex0) = wend at hs hb
    exact bodyPost_ret (results_cell rfl rfl (loadRd hs)) rfl ⟨hb, hc0, rfl⟩
  | ok v t =>
    rw [hR] at hrd hdef
    obtain ⟨hnv, hnx, rfl⟩ := hrd
    subst hnv
    have hdv : Rp.devP 0 ((65536 : Nat) : Int) (B.drop at_) = .ok nn0 t := by rw [← Rp.refN_up (by decide)]; exact hR
    have hdev := Rp.devP_inv hdv
    have hv0 : 0 ≤ nn0 := hdev.2.1
    have hv1 : nn0 ≤ 65536 := hdev.2.2
    obtain ⟨htl, hdt⟩ := suffix_at hdev.1 hi
    obtain ⟨j0, hj0⟩ : ∃ j0 : Nat, nx0 = (j0 : Int) := ⟨nx0.toNat, by omega⟩
    have hj0B : j0 ≤ B.length := by omega
    have hdrj : B.drop j0 = t := by rw [← hdt]; congr 1; omega
    subst hj0
    clear hdv hdev htl hdt hnx hR
    obtain ⟨v, rfl⟩ : ∃ v : Nat, nn0 = (v : Int) := ⟨nn0.toNat, by omega⟩
    have hA : Rp.arrD f (B.drop at_) = (Rp.manyP f v (B.drop j0)).map fun l => .mk 6 [] 0 l := by rw [hdef, hdrj]; rfl
    rw [hA]
    clear hA hdef hdrj
    obtain ⟨w1, hw1⟩ : ∃ w1, w.alloc (.cells #[.int .i64 0, .string ⟨#[]⟩, .int .i64 0, .slice none 0 0, .int .i64 0, .int .i64 0] 51) = w1 := ⟨_, rfl⟩
    have hz : Rd6 w1 w.heap.size (.int .i64 0) (.string ⟨#[]⟩) (.int .i64 0) (.slice none 0 0) (.int .i64 0) (.int .i64 0) := by rw [← hw1]; exact Rd6.new w _ _ _ _ _ _
    have hb1 : Below w.heap.size w w1 := by rw [← hw1]; exact (Below.refl _ w).alloc (Nat.le_refl _) _
    have hsz : w1.heap.size = w.heap.size + 1 := by rw [← hw1]; simp
    have HW1 := Lib.hid hw1
    have HZ := Lib.hid hz
    have HB := Lib.hid hb1
    clear hw1 hz hb1
    go_enter Tryz.func56, Tryz.ntmps56
    go_upto_region 1 with (fail)
    rw [show w.alloc (.cells #[.int .i64 0, .string ⟨#[]⟩, .int .i64 0, .slice none 0 0, .int .i64 0, .int .i64 0] 51) = w1 from HW1.out]
    clear HW1
    go_wp2_with fail
    refine (HCALL.out w1).mono ?_
    rintro e w2 ⟨rfl, hb2⟩
    go_upto_region 4 with (fail)
    obtain ⟨w3, hw3⟩ : ∃ w3, w2.alloc (.cells #[.int .i64 0, .string ⟨#[]⟩, .int .i64 (v : Int), .slice none 0 0, .int .i64 (j0 : Int), .int .i64 0] 51) = w3 := ⟨_, rfl⟩
    have hyy := Rd6.new w2 (.int .i64 0) (.string ⟨#[]⟩) (.int .i64 (v : Int)) (.slice none 0 0) (.int .i64 (j0 : Int)) (.int .i64 0)
    have hb3 : Below w2.heap.size w2 w3 := by rw [← hw3]; exact (Below.refl _ w2).alloc (Nat.le_refl _) _
    have hs3 : w3.heap.size = w2.heap.size + 1 := by rw [← hw3]; simp
    rw [hw3] at hyy ⊢
    obtain ⟨y0, y1, y2, y3, y4, y5⟩ := hyy.cells
    have HZ3 := Lib.hid ((HZ.out.later hb2).later hb3)
    have HB3 := Lib.hid ((HB.out.trans (hb2.mono HB.out.size)).trans (hb3.mono (HB.out.trans (hb2.mono HB.out.size)).size))
    have hz2 : w1.heap.size ≤ w2.heap.size := hb2.size
    clear hw3 hb2 hb3
    have HY3 := Lib.hid hyy
    have hs2 : w.heap.size + 1 ≤ w2.heap.size := by omega
    clear hyy HCALL
    go_upto_region 7 with (fail)
    obtain ⟨w4, hw4⟩ : ∃ w4, w3.alloc (.cells #[.int .i64 6, .string ⟨#[]⟩, .int .i64 0, .slice none 0 0] 45) = w4 := ⟨_, rfl⟩
    have hp4 := World.alloc_heap_new w3 (.cells #[.int .i64 6, .string ⟨#[]⟩, .int .i64 0, .slice none 0 0] 45)
    have hb4 : Below w3.heap.size w3 w4 := by rw [← hw4]; exact (Below.refl _ w3).alloc (Nat.le_refl _) _
    have hs4 : w4.heap.size = w3.heap.size + 1 := by rw [← hw4]; simp
    rw [hw4] at hp4 ⊢
    have HZ4 := Lib.hid (HZ3.out.later hb4)
    have HY4 := Lib.hid (HY3.out.later hb4)
    have HB4 := Lib.hid (HB3.out.trans (hb4.mono HB3.out.size))
    have HP4 := Lib.hid hp4
    obtain ⟨q0, q1, q2, q3, q4, q5⟩ := HY4.out.cells
    clear hw4 hp4 hb4 y0 y1 y2 y3 y4 y5 HZ3 HY3 HB3
    go_wp2_with fail
    go_loopw [9, 10, 11] (fun nx i _ wr => ∃ (q j : Nat) (pre : List Rp.R), q ≤ v ∧ j ≤ B.length ∧ pre.length = q ∧ nx = .int .i64 (j : Int) ∧ i = .int .i64 (q : Int) ∧ Hid (MInv w3.heap.size w4 pre q wr) ∧ Hid (Rp.manyP f v (B.drop j0) = (Rp.manyP f (v - q) (B.drop j)).map (fun l => pre ++ l))) (fun _ i _ _ => v - (intOf i).toNat)
    case atStart =>
      refine ⟨0, j0, [], Nat.zero_le _, hj0B, rfl, rfl, rfl, Lib.hid ⟨none, 0, [], rfl, rfl, HP4.out, World.ownsRow_nil _ _ _ _, fun x h => by simp at h, Keeps.refl _ _⟩, Lib.hid ?_⟩
      rw [Nat.sub_zero]
      cases Rp.manyP f v (B.drop j0) <;> rfl
    case round =>
      clear q0 q1 q2 q3 q4 q5
      obtain ⟨q, j, pre, hq, hj, hpl, rfl, rfl, HM, HQ⟩ := hrel
      obtain ⟨a, c, xs, h1, h2, h3, h4, h5, h6⟩ := HM.out
      have hzr : w4.heap.size ≤ wr.heap.size := h6.size
      have hyr : Rd6 wr w2.heap.size (.int .i64 0) (.string ⟨#[]⟩) (.int .i64 (v : Int)) (.slice none 0 0) (.int .i64 (j0 : Int)) (.int .i64 0) := h6.heap HY4.out (by omega)
      have hzz : Rd6 wr w.heap.size (.int .i64 0) (.string ⟨#[]⟩) (.int .i64 0) (.slice none 0 0) (.int .i64 0) (.int .i64 0) := h6.heap HZ4.out (by omega)
      have hbr : Below w.heap.size w wr := HB4.out.trans (h6.below HB4.out.size fun k hk => by omega)
      obtain ⟨q0, q1, q2, q3, q4, q5⟩ := hyr.cells
      have HZR := Lib.hid hzz
      have HBR := Lib.hid hbr
      have k0 : (0 : Int) ≤ (q : Int) := by omega
      have wq1 : IntKind.i64.wrap ((q : Int) + 1) = (q : Int) + 1 := IntWalk.i64_in _ (by omega)
      clear hzz hbr hyr HM
      by_cases hgo : q < v
      · have k1 : (q : Int) < (v : Int) := by omega
        have hcl := HF.out j hj wr
        obtain ⟨m, hm⟩ : ∃ m, v - q = m + 1 := ⟨v - q - 1, by omega⟩
        have hQ := HQ.out
        rw [hm] at hQ
        cases hfj : f (B.drop j) with
        | err ce =>
          rw [hfj] at hcl
          have HR : Hid (Rp.manyP f v (B.drop j0) = .err ce) := Lib.hid (by rw [hQ, Rp.manyP, hfj]; rfl)
          have HCL := Lib.hid hcl
          clear hcl hQ HQ hfj h1 h2 h3 h4 h5 h6
          go_wp2_with fail
          refine HCL.out.mono ?_
          rintro e wc ⟨hbc, hc0, rfl⟩
          unfold badV
          have hcb : (ce != 0) = true := by simp [hc0]
          go_upto_region 12 with (fail)
          obtain ⟨wx, hwx⟩ : ∃ wx, wc.alloc (.cells #[.int .i64 0, .string ⟨#[]⟩, .int .i64 0, .slice none 0 0, .int .i64 0, .int .i64 ce] 51) = wx := ⟨_, rfl⟩
          have hxx := Rd6.new wc (.int .i64 0) (.string ⟨#[]⟩) (.int .i64 0) (.slice none 0 0) (.int .i64 0) (.int .i64 ce)
          have hbx : Below wc.heap.size wc wx := by rw [← hwx]; exact (Below.refl _ wc).alloc (Nat.le_refl _) _
          rw [hwx] at hxx ⊢
          obtain ⟨v0, v1, v2, v3, v4, v5⟩ := hxx.cells
          have HZX := Lib.hid ((HZR.out.later hbc).later hbx)
          have HBX := Lib.hid ((HBR.out.trans (hbc.mono HBR.out.size)).trans (hbx.mono (HBR.out.trans (hbc.mono HBR.out.size)).size))
          clear hwx hxx hbx hbc q0 q1 q2 q3 q4 q5
          go_upto_region 13 with (fail)
          go_wp2_with fail
          refine (bad_any ce wx).mono ?_
          rintro e wb ⟨rfl, hbb⟩
          unfold badV
          have HZb := Lib.hid (HZX.out.later hbb)
          have HBb := Lib.hid (HBX.out.trans (hbb.mono HBX.out.size))
          obtain ⟨z0, z1, z2, z3, z4, z5⟩ := HZb.out.cells
          obtain ⟨f0, f1, f2, f3, f4, f5⟩ := HZb.out.cells'
          clear hbb
          go_wp2
          have hs := HZb.out.set (.int .i64 0) (.string ⟨#[]⟩) (.int .i64 0) (.slice none 0 0) (.int .i64 0) (.int .i64 ce)
          have hb := set6_below HBb.out (b := w.heap.size) (by omega) (.int .i64 0) (.string ⟨#[]⟩) (.int .i64 0) (.slice none 0 0) (.int .i64 0) (.int .i64 ce)
          show bodyPost _ _ _ .ret _ (set6 wb (w.heap.size) (.int .i64 0) (.string ⟨#[]⟩) (.int .i64 0) (.slice none 0 0) (.int .i64 0) (.int .i64 ce))
          generalize set6 wb (w.heap.size) (.int .i64 0) (.string ⟨#[]⟩) (.int .i64 0) (.slice none 0 0) (.int .i64 0) (.int .i64 ce) = wend at hs hb
          exact bodyPost_ret (results_cell rfl rfl (loadRd hs)) rfl ⟨hb, by rw [HR.out]; exact ⟨hc0, rfl⟩⟩
        | ok r t' =>
          rw [hfj] at hcl
          have hin := HINV.out _ _ _ hfj
          obtain ⟨htl, hdt⟩ := suffix_at hin hj
          obtain ⟨j2, hj2⟩ : ∃ j2 : Nat, B.length - t'.length = j2 := ⟨_, rfl⟩
          have hjI : (B.length : Int) - (t'.length : Int) = (j2 : Int) := by omega
          have HQ2 : Hid (Rp.manyP f v (B.drop j0) = (Rp.manyP f (v - (q + 1)) (B.drop j2)).map (fun l => (pre ++ [r]) ++ l)) := Lib.hid (by
            rw [hQ, Rp.manyP, hfj, show v - (q + 1) = m by omega, ← hj2, hdt]
            show ((Rp.manyP f m t').map _).map _ = _
            cases Rp.manyP f m t' with
            | err c => rfl
            | ok l u => simp [Rp.Out.map])
          have hj2B : j2 ≤ B.length := by omega
          have HCL := Lib.hid hcl
          have H1 := Lib.hid h1
          have H2 := Lib.hid h2
          have H3 := Lib.hid h3
          have H4 := Lib.hid h4
          have H5 := Lib.hid h5
          have H6 := Lib.hid h6
          have HPL := Lib.hid hpl
          clear hcl hQ HQ hfj hin htl hdt hj2 h1 h2 h3 h4 h5 h6 hpl
          go_wp2_with fail
          refine HCL.out.mono ?_
          rintro e wc ⟨hbc, a1, c1, rfl, hrep⟩
          rw [hjI]
          obtain ⟨-, -, -, hfit, -⟩ := hrep.parts
          go_upto_region 12 with (fail)
          obtain ⟨wx, hwx⟩ : ∃ wx, wc.alloc (.cells #[.int .i64 r.k, .string ⟨r.s.toArray⟩, .int .i64 r.n, .slice a1 r.l.length c1, .int .i64 (j2 : Int), .int .i64 0] 51) = wx := ⟨_, rfl⟩
          have hxx := Rd6.new wc (.int .i64 r.k) (.string ⟨r.s.toArray⟩) (.int .i64 r.n) (.slice a1 r.l.length c1) (.int .i64 (j2 : Int)) (.int .i64 0)
          have hbx : Below wc.heap.size wc wx := by rw [← hwx]; exact (Below.refl _ wc).alloc (Nat.le_refl _) _
          have hsx : wx.heap.size = wc.heap.size + 1 := by rw [← hwx]; simp
          rw [hwx] at hxx ⊢
          obtain ⟨v0, v1, v2, v3, v4, v5⟩ := hxx.cells
          have hsc : wr.heap.size ≤ wc.heap.size := hbc.size
          have hbrx : Below wr.heap.size wr wx := hbc.trans (hbx.mono hsc)
          have HB1 := Lib.hid (below_undrew hbrx)
          have HREP := Lib.hid (hrep.later hbx)
          have hpx := (hbrx.block w3.heap.size (by omega)).trans H3.out
          rw [hs3] at hpx
          obtain ⟨p0, p1, p2, p3, g0, g1, g2, g3⟩ := cells_four' hpx
          have HO2 := Lib.hid (owns_kept (S := fun _ => True) H4.out (Keeps.of_below hbrx fun _ h _ => h) fun _ _ => trivial)
          have HXX := Lib.hid hxx
          have HSX := Lib.hid hsx
          obtain ⟨i24, hi24, hi24z, hi24s, hi24b⟩ := info_parts info24
          clear hwx hxx hbx hbrx hpx hrep hbc hsx q0 q1 q2 q3 q4 q5
          go_upto_region 14 with (fail)
          go_wp2_with (at_builtin; refine wpList_append_lies _ rfl (.tmp 44) (.tmp 47) 43 rfl w4.heap.size 45 i24 _ 4 56 Tryz.underlying43 hi24 hi24z hi24s hi24b rfl (by decide) (.slice a q c) q (flat4 xs) rfl (HO2.out.alloc _) ⟨wx.heap.size, 0, none⟩ 1 1 [.int .i64 r.k, .string ⟨r.s.toArray⟩, .int .i64 r.n, .slice a1 r.l.length c1] rfl rfl (four_news wx _ _ _ _) ?n3 (by decide) ?n4 ?n5 ?n6 (wx.heap.size + 1) ?n7 ?_)
          case n3 => intro u hu; simp at hu; rcases hu with rfl | rfl | rfl | rfl <;> rfl
          case n4 => unfold maxLen; omega
          case n5 => omega
          case n6 => have := HSX.out; simp; omega
          case n7 => simp
          intro g cap' w6 hown hgrow hat hlt6
          have hsx := HSX.out
          have hfar : ∀ k, k < w4.heap.size → some k ≠ (Value.slice a q c).ownBlock := fun k hk e => by have := (H4.out.lt _ e.symm).1; omega
          have hp6 := (mk_kept HB1.out hgrow).heap H3.out (hfar w3.heap.size (by omega))
          rw [hs3] at hp6
          obtain ⟨p0', p1', p2', p3', g0', g1', g2', g3'⟩ := cells_four' hp6
          have hownlt : ∀ k, (Value.slice a q c).ownBlock = some k → k < wr.heap.size := fun k e => (H4.out.lt _ e).2
          have hx6 := (hgrow.cell_far ⟨wc.heap.size, 4, none⟩ (by simp; omega) (fun e => by have := hownlt _ e.symm; simp only at this; omega)).trans ((World.cell?_alloc_lt wx (.cells #[.int .i64 r.k, .string ⟨r.s.toArray⟩, .int .i64 r.n, .slice a1 r.l.length c1] 45) ⟨wc.heap.size, 4, none⟩ (by simp; omega)).trans v4)
          have HO3 := Lib.hid hown
          have HG3 := Lib.hid hgrow
          have HA3 := Lib.hid hat
          clear hown hgrow hat hp6 hfar hsx p0 p1 p2 p3 g0 g1 g2 g3 v0 v1 v2 v3 v4 v5 hownlt
          go_upto_region 15 with (fail)
          obtain ⟨w7, hw7⟩ : ∃ w7, w6.setCell ⟨w2.heap.size + 1, 3, none⟩ (.slice (some ⟨g, 0, none⟩) (q + 1) cap') = w7 := ⟨_, rfl⟩
          rw [hw7]
          have hx7 : w7.cell? ⟨wc.heap.size, 4, none⟩ = some (.int .i64 (j2 : Int)) := by
            rw [← hw7, World.cell?_setCell_other _ _ _ _ (by first | (simp; done) | (simp; omega))]
            exact hx6
          have hstep : MInv w3.heap.size w4 (pre ++ [r]) (q + 1) w7 := by
            rw [← hw7, ← hs3]
            exact MInv.step (l := pre ++ [r]) (x := ⟨r.k, ⟨r.s.toArray⟩, r.n, a1, r.l.length, c1, 0, r⟩) (by omega) H1.out (by rw [H2.out, ← HPL.out, List.take_length, List.take_left]) (by rw [List.length_append, HPL.out]; simp) (by simp [← HPL.out]) H3.out H4.out H5.out H6.out HB1.out HREP.out (by rw [hs4, hs3]; exact HO3.out) HG3.out (by rw [World.size_alloc]; exact HA3.out)
          have HST := Lib.hid hstep
          clear hw7 hx6 hstep p0' p1' p2' p3' g0' g1' g2' g3'
          go_wp2_with fail
          go_roundw
          case rel => exact ⟨q + 1, j2, pre ++ [r], by omega, hj2B, by rw [List.length_append, HPL.out]; rfl, rfl, by go_num, HST, HQ2⟩
          case measure => simp [intOf]; omega
      · obtain rfl : q = v := by omega
        have hnlt : ¬ (q : Int) < (q : Int) := by omega
        have hQ := HQ.out
        rw [Nat.sub_self, Rp.manyP] at hQ
        obtain ⟨a', c', hv, hrep⟩ := row_rep (xs := xs) (by rw [h1]; exact h4) (by omega) (fun x hx => (h5 x hx).mono fun k h _ => h.1)
        rw [h1, h2, ← hpl, List.take_length] at hrep
        rw [h1] at hv
        simp only [Value.slice.injEq, true_and] at hv
        obtain ⟨rfl, rfl⟩ := hv
        have HR : Hid (Rp.manyP f pre.length (B.drop j0) = .ok pre (B.drop j)) := Lib.hid (by rw [hpl, hQ]; simp [Rp.Out.map])
        have hnx : (B.length : Int) - ((B.drop j).length : Int) = (j : Int) := by rw [List.length_drop]; omega
        have HNX := Lib.hid hnx
        rw [hs3] at h3
        obtain ⟨p0, p1, p2, p3, g0, g1, g2, g3⟩ := cells_four' h3
        obtain ⟨z0, z1, z2, z3, z4, z5⟩ := HZR.out.cells
        obtain ⟨f0, f1, f2, f3, f4, f5⟩ := HZR.out.cells'
        have HREP := Lib.hid hrep
        have HPL := Lib.hid hpl
        have hs4w : w.heap.size < w4.heap.size := by omega
        clear hQ HQ h1 h2 h3 h4 h5 h6 hrep hnx hpl
        go_wp2
        have hrep2 : Rep (fun k => w.heap.size ≤ k) (set6 wr w.heap.size (.int .i64 6) (.string ⟨#[]⟩) (.int .i64 0) (.slice a q c) (.int .i64 (j : Int)) (.int .i64 0)) (.mk 6 [] 0 pre) (.agg #[.int .i64 6, .string ⟨#[]⟩, .int .i64 0, .slice a pre.length c]) :=
          Rep.keeps (S := fun k => w4.heap.size ≤ k) (((((((Keeps.refl _ wr).setCell (p := ⟨w.heap.size, 0, none⟩) (.inr (by simp only; omega)) _).setCell (p := ⟨w.heap.size, 1, none⟩) (.inr (by simp only; omega)) _).setCell (p := ⟨w.heap.size, 2, none⟩) (.inr (by simp only; omega)) _).setCell (p := ⟨w.heap.size, 3, none⟩) (.inr (by simp only; omega)) _).setCell (p := ⟨w.heap.size, 4, none⟩) (.inr (by simp only; omega)) _).setCell (p := ⟨w.heap.size, 5, none⟩) (.inr (by simp only; omega)) _) (fun k h _ => by omega) _ _ HREP.out
        have hs4w2 := hs4w
        have hs := HZR.out.set (.int .i64 6) (.string ⟨#[]⟩) (.int .i64 0) (.slice a q c) (.int .i64 (j : Int)) (.int .i64 0)
        have hb := set6_below HBR.out (b := w.heap.size) (by omega) (.int .i64 6) (.string ⟨#[]⟩) (.int .i64 0) (.slice a q c) (.int .i64 (j : Int)) (.int .i64 0)
        show bodyPost _ _ _ .ret _ (set6 wr (w.heap.size) (.int .i64 6) (.string ⟨#[]⟩) (.int .i64 0) (.slice a q c) (.int .i64 (j : Int)) (.int .i64 0))
        generalize set6 wr (w.heap.size) (.int .i64 6) (.string ⟨#[]⟩) (.int .i64 0) (.slice a q c) (.int .i64 (j : Int)) (.int .i64 0) = wend at hs hb hrep2
        exact bodyPost_ret (results_cell rfl rfl (loadRd hs)) rfl ⟨hb, by rw [← HPL.out, HR.out]; exact ⟨a, c, by simp only [HNX.out, Rp.R.k, Rp.R.s, Rp.R.n, Rp.R.l, HPL.out], hrep2⟩⟩
end Go.Proofs.YtbkhnnjjpelfcaaGreatDoor
namespace Go.Proofs.YtbkhnnjjpelfcaaGreatDoor
open Go.RowKit Go.Shelf
attribute [local go_sem] Oper.semAt_some
set_option linter.unusedVariables false
set_option linter.unusedSimpArgs false

theorem line_form (B : List UInt8) (at_ : Nat) (kind : Int) (hl : B.length ≤ 3000) (hi : at_ ≤ B.length) :
    ∃ (kk : Int) (ss : ByteArray) (nn nx ex : Int), RdL B.length ((Rp.lineP (B.drop at_)).map fun s => Rp.R.mk kind s 0 []) kk ss nn nx ex ∧
      ∀ w, Calls Tryz.prog 53 #[.string ⟨B.toArray⟩, .int .i64 (at_ : Int), .int .i64 kind] w fun e W => e = .returned (.agg #[.int .i64 kk, .string ss, .int .i64 nn, .slice none 0 0, .int .i64 nx, .int .i64 ex]) ∧ Below w.heap.size w W := by
  have hc := fun w => line_ref B at_ kind w hl hi
  have h0 : Rp.lineP (B.drop at_) ≠ .err 0 := by
    unfold Rp.lineP
    simp only
    split
    · simp
    · exact endP_err0
  unfold LineOut at hc
  generalize Rp.lineP (B.drop at_) = o at hc h0
  cases o with
  | ok s t => exact ⟨kind, ⟨s.toArray⟩, 0, (B.length : Int) - (t.length : Int), 0, ⟨rfl, rfl, rfl, rfl, rfl, rfl⟩, hc⟩
  | err c =>
    refine ⟨0, ⟨#[]⟩, 0, 0, c, ⟨fun h => h0 (by rw [h]), rfl, rfl, rfl, rfl, rfl⟩, fun w => (hc w).mono ?_⟩
    rintro e W ⟨⟨-, h⟩, hb⟩
    exact ⟨h, hb⟩

theorem rdr_of {n : Nat} {w W : World} {o : Rp.Out Rp.R} {kk : Int} {ss : ByteArray} {nn nx ex : Int} (h : RdL n o kk ss nn nx ex) (hb : Below w.heap.size w W) (hf : ∀ r t, o = .ok r t → Fit r.k r.s r.n 0 0) :
    RdR n w o (.returned (.agg #[.int .i64 kk, .string ss, .int .i64 nn, .slice none 0 0, .int .i64 nx, .int .i64 ex])) W := by
  refine ⟨hb, ?_⟩
  cases o with
  | ok r t =>
    obtain ⟨h1, rfl, rfl, rfl, rfl, rfl⟩ := h
    obtain ⟨k, s, m, l⟩ := r
    simp only [Rp.R.l] at h1
    subst h1
    exact ⟨none, 0, rfl, rep_plain (hf _ _ rfl)⟩
  | err c =>
    obtain ⟨h0, rfl, rfl, rfl, rfl, rfl⟩ := h
    exact ⟨h0, rfl⟩

/-- what is told of any bytes' reply, by its mark. -/
def markR (d : Nat) (bs : List UInt8) : Rp.Out Rp.R := Rp.replyD d bs
theorem replyD_cons (d : Nat) (x : UInt8) (r : List UInt8) : Rp.replyD d (x :: r) =
    if x = 43 then (Rp.lineP r).map fun s => .mk 1 s 0 []
    else if x = 45 then (Rp.lineP r).map fun s => .mk 2 s 0 []
    else if x = 58 then (Rp.devP (-9223372036854775808) 9223372036854775807 r).map fun n => .mk 3 [] n []
    else if x = 36 then Rp.bulkD r
    else if x = 42 then (match d with | 0 => .err 5 | d + 1 => Rp.arrD (Rp.replyD d) r)
    else .err 5 := by
  cases d with
  | zero => rw [Rp.replyD]; rfl
  | succ d => rw [Rp.replyD]; rfl
theorem lineP_fit {bs s t : List UInt8} (h : Rp.lineP bs = .ok s t) : s.length ≤ 512 := by
  unfold Rp.lineP at h
  simp only at h
  split at h
  · cases h
  · have := (Rp.endP_inv h).1
    rw [this]; omega
theorem bulkD_fit {bs t : List UInt8} {r : Rp.R} (h : Rp.bulkD bs = .ok r t) (hl : bs.length ≤ 3000) : Fit r.k r.s r.n 0 0 := by
  unfold Rp.bulkD at h
  cases hd : Rp.devP (-1) 1048576 bs with
  | err c => rw [hd] at h; cases h
  | ok n u =>
    rw [hd] at h
    have hi := Rp.devP_inv hd
    change (if n < 0 then _ else _) = _ at h
    split at h
    · injection h with h1 h2
      rw [← h1]
      unfold Fit; simp [Rp.R.k, Rp.R.s, Rp.R.n]
    · cases ht : Rp.textP n.toNat u with
      | err c => rw [ht] at h; cases h
      | ok s v =>
        rw [ht] at h
        injection h with h1 h2
        rw [← h1]
        have hs := (Rp.textP_inv ht).2.2
        have := hi.2.2
        unfold Fit
        simp only [Rp.R.k, Rp.R.s, Rp.R.n]
        omega

/-- the array's reader at a depth. -/
def ArrAt (B : List UInt8) (d : Nat) : Prop := ∀ at_, at_ ≤ B.length → ∀ w, Calls Tryz.prog 56 #[.string ⟨B.toArray⟩, .int .i64 (at_ : Int), .int .i64 (d : Int)] w (RdR B.length w (match d with | 0 => .err 5 | d + 1 => Rp.arrD (Rp.replyD d) (B.drop at_)))

set_option maxRecDepth 100000 in
set_option maxHeartbeats 8000000 in
theorem reply_step (B : List UInt8) (d : Nat) (hl : B.length ≤ 3000) (hd : d ≤ 8) (hA : ArrAt B d) : ∀ at_, at_ ≤ B.length → ∀ w,
    Calls Tryz.prog 35 #[.string ⟨B.toArray⟩, .int .i64 (at_ : Int), .int .i64 (d : Int)] w (RdR B.length w (Rp.replyD d (B.drop at_))) := by
  intro at_ hi w
  have hlI : (B.length : Int) ≤ 3000 := by omega
  have a0 : (0 : Int) ≤ (at_ : Int) := by omega
  have aL : (at_ : Int) ≤ (B.length : Int) := by omega
  have wa1 : IntKind.i64.wrap ((at_ : Int) + 1) = (at_ : Int) + 1 := IntWalk.i64_in _ (by omega)
  by_cases h1 : at_ < B.length
  · have h1I : (at_ : Int) < (B.length : Int) := by omega
    have h1n : ¬ (B.length : Int) ≤ (at_ : Int) := by omega
    have hix := idx_at B at_ h1
    have hdr := drop_at h1
    obtain ⟨c0, hc⟩ : ∃ c0, B.getD at_ 0 = c0 := ⟨_, rfl⟩
    rw [hc] at hix hdr
    obtain ⟨y, hy⟩ : ∃ y : Int, (c0.toNat : Int) = y := ⟨_, rfl⟩
    rw [hy] at hix
    have hne : ∀ k : UInt8, c0 ≠ k → (y == (k.toNat : Int)) = false := fun k h => by rw [beq_eq_false_iff_ne]; intro e; exact h (UInt8.toNat_inj.1 (by omega))
    rw [hdr, replyD_cons]
    by_cases q43 : c0 = 43
    · have hyv : y = 43 := by rw [← hy, q43]; rfl
      subst hyv
      rw [if_pos q43]
      obtain ⟨kk, ss, nn, nx, ex, hrd, hcall⟩ := line_form B (at_ + 1) 1 hl h1
      have hfit : ∀ r t, ((Rp.lineP (B.drop (at_ + 1))).map fun s => Rp.R.mk 1 s 0 []) = .ok r t → Fit r.k r.s r.n 0 0 := fun r t h => by
        cases hL : Rp.lineP (B.drop (at_ + 1)) with
        | err c => rw [hL] at h; cases h
        | ok s u =>
          rw [hL] at h
          injection h with h1 h2
          have := lineP_fit hL
          rw [← h1]
          unfold Fit; simp only [Rp.R.k, Rp.R.s, Rp.R.n]; omega
      have HC := Lib.hid hcall
      rw [show ((at_ + 1 : Nat) : Int) = (at_ : Int) + 1 from rfl] at HC
      have HRD := Lib.hid hrd
      have HFT := Lib.hid hfit
      clear hdr hc hy hne hcall hrd hfit
      obtain ⟨w1, hw1⟩ : ∃ w1, w.alloc (.cells #[.int .i64 0, .string ⟨#[]⟩, .int .i64 0, .slice none 0 0, .int .i64 0, .int .i64 0] 51) = w1 := ⟨_, rfl⟩
      have hz : Rd6 w1 w.heap.size (.int .i64 0) (.string ⟨#[]⟩) (.int .i64 0) (.slice none 0 0) (.int .i64 0) (.int .i64 0) := by rw [← hw1]; exact Rd6.new w _ _ _ _ _ _
      have hb1 : Below w.heap.size w w1 := by rw [← hw1]; exact (Below.refl _ w).alloc (Nat.le_refl _) _
      have hsz : w1.heap.size = w.heap.size + 1 := by rw [← hw1]; simp
      have HW1 := Lib.hid hw1
      have HZ := Lib.hid hz
      have HB := Lib.hid hb1
      clear hw1 hz hb1
      go_enter Tryz.func35, Tryz.ntmps35
      go_upto_region 1 with (fail)
      rw [show w.alloc (.cells #[.int .i64 0, .string ⟨#[]⟩, .int .i64 0, .slice none 0 0, .int .i64 0, .int .i64 0] 51) = w1 from HW1.out]
      clear HW1
      go_wp2_with fail
      refine (HC.out w1).mono ?_
      rintro e wb ⟨rfl, hbb⟩
      have HZb := Lib.hid (HZ.out.later hbb)
      have HBb := Lib.hid (HB.out.trans (hbb.mono HB.out.size))
      obtain ⟨z0, z1, z2, z3, z4, z5⟩ := HZb.out.cells
      obtain ⟨f0, f1, f2, f3, f4, f5⟩ := HZb.out.cells'
      clear hbb
      go_wp2
      have hs := HZb.out.set (.int .i64 kk) (.string ss) (.int .i64 nn) (.slice none 0 0) (.int .i64 nx) (.int .i64 ex)
      have hb := set6_below HBb.out (b := w.heap.size) (by omega) (.int .i64 kk) (.string ss) (.int .i64 nn) (.slice none 0 0) (.int .i64 nx) (.int .i64 ex)
      show bodyPost _ _ _ .ret _ (set6 wb (w.heap.size) (.int .i64 kk) (.string ss) (.int .i64 nn) (.slice none 0 0) (.int .i64 nx) (.int .i64 ex))
      generalize set6 wb (w.heap.size) (.int .i64 kk) (.string ss) (.int .i64 nn) (.slice none 0 0) (.int .i64 nx) (.int .i64 ex) = wend at hs hb
      exact bodyPost_ret (results_cell rfl rfl (loadRd hs)) rfl (rdr_of HRD.out hb HFT.out)
    · have n43 : ¬ y = 43 := fun e => q43 (UInt8.toNat_inj.1 (by have : (43 : UInt8).toNat = 43 := rfl; omega))
      rw [if_neg q43]
      by_cases q45 : c0 = 45
      · have hyv : y = 45 := by rw [← hy, q45]; rfl
        subst hyv
        rw [if_pos q45]
        obtain ⟨kk, ss, nn, nx, ex, hrd, hcall⟩ := line_form B (at_ + 1) 2 hl h1
        have hfit : ∀ r t, ((Rp.lineP (B.drop (at_ + 1))).map fun s => Rp.R.mk 2 s 0 []) = .ok r t → Fit r.k r.s r.n 0 0 := fun r t h => by
          cases hL : Rp.lineP (B.drop (at_ + 1)) with
          | err c => rw [hL] at h; cases h
          | ok s u =>
            rw [hL] at h
            injection h with h1 h2
            have := lineP_fit hL
            rw [← h1]
            unfold Fit; simp only [Rp.R.k, Rp.R.s, Rp.R.n]; omega
        have HC := Lib.hid hcall
        rw [show ((at_ + 1 : Nat) : Int) = (at_ : Int) + 1 from rfl] at HC
        have HRD := Lib.hid hrd
        have HFT := Lib.hid hfit
        clear hdr hc hy hne hcall hrd hfit
        obtain ⟨w1, hw1⟩ : ∃ w1, w.alloc (.cells #[.int .i64 0, .string ⟨#[]⟩, .int .i64 0, .slice none 0 0, .int .i64 0, .int .i64 0] 51) = w1 := ⟨_, rfl⟩
        have hz : Rd6 w1 w.heap.size (.int .i64 0) (.string ⟨#[]⟩) (.int .i64 0) (.slice none 0 0) (.int .i64 0) (.int .i64 0) := by rw [← hw1]; exact Rd6.new w _ _ _ _ _ _
        have hb1 : Below w.heap.size w w1 := by rw [← hw1]; exact (Below.refl _ w).alloc (Nat.le_refl _) _
        have hsz : w1.heap.size = w.heap.size + 1 := by rw [← hw1]; simp
        have HW1 := Lib.hid hw1
        have HZ := Lib.hid hz
        have HB := Lib.hid hb1
        clear hw1 hz hb1
        go_enter Tryz.func35, Tryz.ntmps35
        go_upto_region 1 with (fail)
        rw [show w.alloc (.cells #[.int .i64 0, .string ⟨#[]⟩, .int .i64 0, .slice none 0 0, .int .i64 0, .int .i64 0] 51) = w1 from HW1.out]
        clear HW1
        go_wp2_with fail
        refine (HC.out w1).mono ?_
        rintro e wb ⟨rfl, hbb⟩
        have HZb := Lib.hid (HZ.out.later hbb)
        have HBb := Lib.hid (HB.out.trans (hbb.mono HB.out.size))
        obtain ⟨z0, z1, z2, z3, z4, z5⟩ := HZb.out.cells
        obtain ⟨f0, f1, f2, f3, f4, f5⟩ := HZb.out.cells'
        clear hbb
        go_wp2
        have hs := HZb.out.set (.int .i64 kk) (.string ss) (.int .i64 nn) (.slice none 0 0) (.int .i64 nx) (.int .i64 ex)
        have hb := set6_below HBb.out (b := w.heap.size) (by omega) (.int .i64 kk) (.string ss) (.int .i64 nn) (.slice none 0 0) (.int .i64 nx) (.int .i64 ex)
        show bodyPost _ _ _ .ret _ (set6 wb (w.heap.size) (.int .i64 kk) (.string ss) (.int .i64 nn) (.slice none 0 0) (.int .i64 nx) (.int .i64 ex))
        generalize set6 wb (w.heap.size) (.int .i64 kk) (.string ss) (.int .i64 nn) (.slice none 0 0) (.int .i64 nx) (.int .i64 ex) = wend at hs hb
        exact bodyPost_ret (results_cell rfl rfl (loadRd hs)) rfl (rdr_of HRD.out hb HFT.out)
      · have n45 : ¬ y = 45 := fun e => q45 (UInt8.toNat_inj.1 (by have : (45 : UInt8).toNat = 45 := rfl; omega))
        rw [if_neg q45]
        by_cases q58 : c0 = 58
        · have hyv : y = 58 := by rw [← hy, q58]; rfl
          subst hyv
          rw [if_pos q58, ← Rp.refN_all]
          obtain ⟨nn, nx, ex, hrd, hcall⟩ := number_form B (at_ + 1) true 9223372036854775807 hl h1 (by decide) (by decide)
          have HC := Lib.hid hcall
          rw [show ((at_ + 1 : Nat) : Int) = (at_ : Int) + 1 from rfl] at HC
          have hdv := Rp.refN_all (B.drop (at_ + 1))
          cases hR : Rp.refN true 9223372036854775807 (B.drop (at_ + 1)) with
          | err c =>
            rw [hR] at hrd
            obtain ⟨hc0, rfl, rfl, rfl⟩ := hrd
            have hcb : (ex == 0) = false := by simp [hc0]
            clear hdr hc hy hne hcall hR hdv
            obtain ⟨w1, hw1⟩ : ∃ w1, w.alloc (.cells #[.int .i64 0, .string ⟨#[]⟩, .int .i64 0, .slice none 0 0, .int .i64 0, .int .i64 0] 51) = w1 := ⟨_, rfl⟩
            have hz : Rd6 w1 w.heap.size (.int .i64 0) (.string ⟨#[]⟩) (.int .i64 0) (.slice none 0 0) (.int .i64 0) (.int .i64 0) := by rw [← hw1]; exact Rd6.new w _ _ _ _ _ _
            have hb1 : Below w.heap.size w w1 := by rw [← hw1]; exact (Below.refl _ w).alloc (Nat.le_refl _) _
            have hsz : w1.heap.size = w.heap.size + 1 := by rw [← hw1]; simp
            have HW1 := Lib.hid hw1
            have HZ := Lib.hid hz
            have HB := Lib.hid hb1
            clear hw1 hz hb1
            go_enter Tryz.func35, Tryz.ntmps35
            go_upto_region 1 with (fail)
            rw [show w.alloc (.cells #[.int .i64 0, .string ⟨#[]⟩, .int .i64 0, .slice none 0 0, .int .i64 0, .int .i64 0] 51) = w1 from HW1.out]
            clear HW1
            go_wp2_with fail
            refine (HC.out w1).mono ?_
            rintro e w2 ⟨rfl, hb2⟩
            go_upto_region 10 with (fail)
            obtain ⟨w3, hw3⟩ : ∃ w3, w2.alloc (.cells #[.int .i64 0, .string ⟨#[]⟩, .int .i64 0, .slice none 0 0, .int .i64 0, .int .i64 ex] 51) = w3 := ⟨_, rfl⟩
            have hyy := Rd6.new w2 (.int .i64 0) (.string ⟨#[]⟩) (.int .i64 0) (.slice none 0 0) (.int .i64 0) (.int .i64 ex)
            have hb3 : Below w2.heap.size w2 w3 := by rw [← hw3]; exact (Below.refl _ w2).alloc (Nat.le_refl _) _
            have hs3 : w3.heap.size = w2.heap.size + 1 := by rw [← hw3]; simp
            rw [hw3] at hyy ⊢
            obtain ⟨y0, y1, y2, y3, y4, y5⟩ := hyy.cells
            have HZ3 := Lib.hid ((HZ.out.later hb2).later hb3)
            have HB3 := Lib.hid ((HB.out.trans (hb2.mono HB.out.size)).trans (hb3.mono (HB.out.trans (hb2.mono HB.out.size)).size))
            have hz2 : w1.heap.size ≤ w2.heap.size := hb2.size
            clear hw3 hb2 hb3
            go_upto_region 12 with (fail)
            obtain ⟨z0, z1, z2, z3, z4, z5⟩ := HZ3.out.cells
            obtain ⟨f0, f1, f2, f3, f4, f5⟩ := HZ3.out.cells'
            clear hyy
            go_wp2
            have hs := HZ3.out.set (.int .i64 0) (.string ⟨#[]⟩) (.int .i64 0) (.slice none 0 0) (.int .i64 0) (.int .i64 ex)
            have hb := set6_below HB3.out (b := w.heap.size) (by omega) (.int .i64 0) (.string ⟨#[]⟩) (.int .i64 0) (.slice none 0 0) (.int .i64 0) (.int .i64 ex)
            show bodyPost _ _ _ .ret _ (set6 w3 (w.heap.size) (.int .i64 0) (.string ⟨#[]⟩) (.int .i64 0) (.slice none 0 0) (.int .i64 0) (.int .i64 ex))
            generalize set6 w3 (w.heap.size) (.int .i64 0) (.string ⟨#[]⟩) (.int .i64 0) (.slice none 0 0) (.int .i64 0) (.int .i64 ex) = wend at hs hb
            exact bodyPost_ret (results_cell rfl rfl (loadRd hs)) rfl ⟨hb, hc0, rfl⟩
          | ok v t =>
            rw [hR] at hrd hdv
            obtain ⟨hnv, hnx, rfl⟩ := hrd
            subst hnv
            have hdev := (Rp.devP_inv hdv.symm).2
            have hfit : Fit 3 [] nn 0 0 := by unfold Fit; simp only [List.length_nil]; omega
            subst hnx
            have HFT := Lib.hid hfit
            clear hdr hc hy hne hcall hR hdv hdev hfit
            obtain ⟨w1, hw1⟩ : ∃ w1, w.alloc (.cells #[.int .i64 0, .string ⟨#[]⟩, .int .i64 0, .slice none 0 0, .int .i64 0, .int .i64 0] 51) = w1 := ⟨_, rfl⟩
            have hz : Rd6 w1 w.heap.size (.int .i64 0) (.string ⟨#[]⟩) (.int .i64 0) (.slice none 0 0) (.int .i64 0) (.int .i64 0) := by rw [← hw1]; exact Rd6.new w _ _ _ _ _ _
            have hb1 : Below w.heap.size w w1 := by rw [← hw1]; exact (Below.refl _ w).alloc (Nat.le_refl _) _
            have hsz : w1.heap.size = w.heap.size + 1 := by rw [← hw1]; simp
            have HW1 := Lib.hid hw1
            have HZ := Lib.hid hz
            have HB := Lib.hid hb1
            clear hw1 hz hb1
            go_enter Tryz.func35, Tryz.ntmps35
            go_upto_region 1 with (fail)
            rw [show w.alloc (.cells #[.int .i64 0, .string ⟨#[]⟩, .int .i64 0, .slice none 0 0, .int .i64 0, .int .i64 0] 51) = w1 from HW1.out]
            clear HW1
            go_wp2_with fail
            refine (HC.out w1).mono ?_
            rintro e w2 ⟨rfl, hb2⟩
            go_upto_region 10 with (fail)
            obtain ⟨w3, hw3⟩ : ∃ w3, w2.alloc (.cells #[.int .i64 0, .string ⟨#[]⟩, .int .i64 nn, .slice none 0 0, .int .i64 ((B.length : Int) - (t.length : Int)), .int .i64 0] 51) = w3 := ⟨_, rfl⟩
            have hyy := Rd6.new w2 (.int .i64 0) (.string ⟨#[]⟩) (.int .i64 nn) (.slice none 0 0) (.int .i64 ((B.length : Int) - (t.length : Int))) (.int .i64 0)
            have hb3 : Below w2.heap.size w2 w3 := by rw [← hw3]; exact (Below.refl _ w2).alloc (Nat.le_refl _) _
            have hs3 : w3.heap.size = w2.heap.size + 1 := by rw [← hw3]; simp
            rw [hw3] at hyy ⊢
            obtain ⟨y0, y1, y2, y3, y4, y5⟩ := hyy.cells
            have HZ3 := Lib.hid ((HZ.out.later hb2).later hb3)
            have HB3 := Lib.hid ((HB.out.trans (hb2.mono HB.out.size)).trans (hb3.mono (HB.out.trans (hb2.mono HB.out.size)).size))
            have hz2 : w1.heap.size ≤ w2.heap.size := hb2.size
            clear hw3 hb2 hb3
            obtain ⟨g0, g1, g2, g3, g4, g5⟩ := hyy.cells'
            have HYY := Lib.hid hyy
            clear hyy
            go_upto_region 12 with (fail)
            obtain ⟨w5, hw5⟩ : ∃ w5, w3.setCell ⟨w2.heap.size, 0, none⟩ (.int .i64 3) = w5 := ⟨_, rfl⟩
            rw [hw5]
            have hy5 : Rd6 w5 w2.heap.size (.int .i64 3) (.string ⟨#[]⟩) (.int .i64 nn) (.slice none 0 0) (.int .i64 ((B.length : Int) - (t.length : Int))) (.int .i64 0) := by rw [← hw5]; exact HYY.out.set0 _
            have hz5 : Rd6 w5 w.heap.size (.int .i64 0) (.string ⟨#[]⟩) (.int .i64 0) (.slice none 0 0) (.int .i64 0) (.int .i64 0) := by rw [← hw5]; exact HZ3.out.other (by omega)
            have hb5 : Below w.heap.size w w5 := by rw [← hw5]; exact HB3.out.setCell (p := ⟨w2.heap.size, 0, none⟩) (by simp only; omega) _
            clear y0 y1 y2 y3 y4 y5 g0 g1 g2 g3 g4 g5 hw5
            obtain ⟨y0, y1, y2, y3, y4, y5⟩ := hy5.cells
            obtain ⟨z0, z1, z2, z3, z4, z5⟩ := hz5.cells
            obtain ⟨f0, f1, f2, f3, f4, f5⟩ := hz5.cells'
            have HZ5 := Lib.hid hz5
            have HB5 := Lib.hid hb5
            clear hy5 hz5 hb5
            go_wp2
            have hs := HZ5.out.set (.int .i64 3) (.string ⟨#[]⟩) (.int .i64 nn) (.slice none 0 0) (.int .i64 ((B.length : Int) - (t.length : Int))) (.int .i64 0)
            have hb := set6_below HB5.out (b := w.heap.size) (by omega) (.int .i64 3) (.string ⟨#[]⟩) (.int .i64 nn) (.slice none 0 0) (.int .i64 ((B.length : Int) - (t.length : Int))) (.int .i64 0)
            show bodyPost _ _ _ .ret _ (set6 w5 (w.heap.size) (.int .i64 3) (.string ⟨#[]⟩) (.int .i64 nn) (.slice none 0 0) (.int .i64 ((B.length : Int) - (t.length : Int))) (.int .i64 0))
            generalize set6 w5 (w.heap.size) (.int .i64 3) (.string ⟨#[]⟩) (.int .i64 nn) (.slice none 0 0) (.int .i64 ((B.length : Int) - (t.length : Int))) (.int .i64 0) = wend at hs hb
            exact bodyPost_ret (results_cell rfl rfl (loadRd hs)) rfl ⟨hb, none, 0, rfl, rep_plain HFT.out⟩
        · have n58 : ¬ y = 58 := fun e => q58 (UInt8.toNat_inj.1 (by have : (58 : UInt8).toNat = 58 := rfl; omega))
          rw [if_neg q58]
          by_cases q36 : c0 = 36
          · have hyv : y = 36 := by rw [← hy, q36]; rfl
            subst hyv
            rw [if_pos q36]
            obtain ⟨kk, ss, nn, nx, ex, hrd, hcall⟩ := bulk_ref B (at_ + 1) hl h1
            rw [Rp.bulkR_dev] at hrd
            have hfit : ∀ r t, Rp.bulkD (B.drop (at_ + 1)) = .ok r t → Fit r.k r.s r.n 0 0 := fun r t h => bulkD_fit h (by rw [List.length_drop]; omega)
            have HC := Lib.hid hcall
            rw [show ((at_ + 1 : Nat) : Int) = (at_ : Int) + 1 from rfl] at HC
            have HRD := Lib.hid hrd
            have HFT := Lib.hid hfit
            clear hdr hc hy hne hcall hrd hfit
            obtain ⟨w1, hw1⟩ : ∃ w1, w.alloc (.cells #[.int .i64 0, .string ⟨#[]⟩, .int .i64 0, .slice none 0 0, .int .i64 0, .int .i64 0] 51) = w1 := ⟨_, rfl⟩
            have hz : Rd6 w1 w.heap.size (.int .i64 0) (.string ⟨#[]⟩) (.int .i64 0) (.slice none 0 0) (.int .i64 0) (.int .i64 0) := by rw [← hw1]; exact Rd6.new w _ _ _ _ _ _
            have hb1 : Below w.heap.size w w1 := by rw [← hw1]; exact (Below.refl _ w).alloc (Nat.le_refl _) _
            have hsz : w1.heap.size = w.heap.size + 1 := by rw [← hw1]; simp
            have HW1 := Lib.hid hw1
            have HZ := Lib.hid hz
            have HB := Lib.hid hb1
            clear hw1 hz hb1
            go_enter Tryz.func35, Tryz.ntmps35
            go_upto_region 1 with (fail)
            rw [show w.alloc (.cells #[.int .i64 0, .string ⟨#[]⟩, .int .i64 0, .slice none 0 0, .int .i64 0, .int .i64 0] 51) = w1 from HW1.out]
            clear HW1
            go_wp2_with fail
            refine (HC.out w1).mono ?_
            rintro e wb ⟨rfl, hbb⟩
            have HZb := Lib.hid (HZ.out.later hbb)
            have HBb := Lib.hid (HB.out.trans (hbb.mono HB.out.size))
            obtain ⟨z0, z1, z2, z3, z4, z5⟩ := HZb.out.cells
            obtain ⟨f0, f1, f2, f3, f4, f5⟩ := HZb.out.cells'
            clear hbb
            go_wp2
            have hs := HZb.out.set (.int .i64 kk) (.string ss) (.int .i64 nn) (.slice none 0 0) (.int .i64 nx) (.int .i64 ex)
            have hb := set6_below HBb.out (b := w.heap.size) (by omega) (.int .i64 kk) (.string ss) (.int .i64 nn) (.slice none 0 0) (.int .i64 nx) (.int .i64 ex)
            show bodyPost _ _ _ .ret _ (set6 wb (w.heap.size) (.int .i64 kk) (.string ss) (.int .i64 nn) (.slice none 0 0) (.int .i64 nx) (.int .i64 ex))
            generalize set6 wb (w.heap.size) (.int .i64 kk) (.string ss) (.int .i64 nn) (.slice none 0 0) (.int .i64 nx) (.int .i64 ex) = wend at hs hb
            exact bodyPost_ret (results_cell rfl rfl (loadRd hs)) rfl (rdr_of HRD.out hb HFT.out)
          · have n36 : ¬ y = 36 := fun e => q36 (UInt8.toNat_inj.1 (by have : (36 : UInt8).toNat = 36 := rfl; omega))
            rw [if_neg q36]
            by_cases q42 : c0 = 42
            · have hyv : y = 42 := by rw [← hy, q42]; rfl
              subst hyv
              rw [if_pos q42]
              have hcall := fun w => hA (at_ + 1) h1 w
              generalize (match d with | 0 => Rp.Out.err 5 | d + 1 => Rp.arrD (Rp.replyD d) (B.drop (at_ + 1))) = o at hcall ⊢
              have HC := Lib.hid hcall
              rw [show ((at_ + 1 : Nat) : Int) = (at_ : Int) + 1 from rfl] at HC
              clear hdr hc hy hne hcall
              cases o with
              | err c =>
                obtain ⟨w1, hw1⟩ : ∃ w1, w.alloc (.cells #[.int .i64 0, .string ⟨#[]⟩, .int .i64 0, .slice none 0 0, .int .i64 0, .int .i64 0] 51) = w1 := ⟨_, rfl⟩
                have hz : Rd6 w1 w.heap.size (.int .i64 0) (.string ⟨#[]⟩) (.int .i64 0) (.slice none 0 0) (.int .i64 0) (.int .i64 0) := by rw [← hw1]; exact Rd6.new w _ _ _ _ _ _
                have hb1 : Below w.heap.size w w1 := by rw [← hw1]; exact (Below.refl _ w).alloc (Nat.le_refl _) _
                have hsz : w1.heap.size = w.heap.size + 1 := by rw [← hw1]; simp
                have HW1 := Lib.hid hw1
                have HZ := Lib.hid hz
                have HB := Lib.hid hb1
                clear hw1 hz hb1
                go_enter Tryz.func35, Tryz.ntmps35
                go_upto_region 1 with (fail)
                rw [show w.alloc (.cells #[.int .i64 0, .string ⟨#[]⟩, .int .i64 0, .slice none 0 0, .int .i64 0, .int .i64 0] 51) = w1 from HW1.out]
                clear HW1
                go_wp2_with fail
                refine (HC.out w1).mono ?_
                rintro e wb ⟨hbb, hc0, rfl⟩
                unfold badV
                have HZb := Lib.hid (HZ.out.later hbb)
                have HBb := Lib.hid (HB.out.trans (hbb.mono HB.out.size))
                obtain ⟨z0, z1, z2, z3, z4, z5⟩ := HZb.out.cells
                obtain ⟨f0, f1, f2, f3, f4, f5⟩ := HZb.out.cells'
                clear hbb
                go_wp2
                have hs := HZb.out.set (.int .i64 0) (.string ⟨#[]⟩) (.int .i64 0) (.slice none 0 0) (.int .i64 0) (.int .i64 c)
                have hb := set6_below HBb.out (b := w.heap.size) (by omega) (.int .i64 0) (.string ⟨#[]⟩) (.int .i64 0) (.slice none 0 0) (.int .i64 0) (.int .i64 c)
                show bodyPost _ _ _ .ret _ (set6 wb (w.heap.size) (.int .i64 0) (.string ⟨#[]⟩) (.int .i64 0) (.slice none 0 0) (.int .i64 0) (.int .i64 c))
                generalize set6 wb (w.heap.size) (.int .i64 0) (.string ⟨#[]⟩) (.int .i64 0) (.slice none 0 0) (.int .i64 0) (.int .i64 c) = wend at hs hb
                exact bodyPost_ret (results_cell rfl rfl (loadRd hs)) rfl ⟨hb, hc0, rfl⟩
              | ok r t =>
                obtain ⟨w1, hw1⟩ : ∃ w1, w.alloc (.cells #[.int .i64 0, .string ⟨#[]⟩, .int .i64 0, .slice none 0 0, .int .i64 0, .int .i64 0] 51) = w1 := ⟨_, rfl⟩
                have hz : Rd6 w1 w.heap.size (.int .i64 0) (.string ⟨#[]⟩) (.int .i64 0) (.slice none 0 0) (.int .i64 0) (.int .i64 0) := by rw [← hw1]; exact Rd6.new w _ _ _ _ _ _
                have hb1 : Below w.heap.size w w1 := by rw [← hw1]; exact (Below.refl _ w).alloc (Nat.le_refl _) _
                have hsz : w1.heap.size = w.heap.size + 1 := by rw [← hw1]; simp
                have HW1 := Lib.hid hw1
                have HZ := Lib.hid hz
                have HB := Lib.hid hb1
                clear hw1 hz hb1
                go_enter Tryz.func35, Tryz.ntmps35
                go_upto_region 1 with (fail)
                rw [show w.alloc (.cells #[.int .i64 0, .string ⟨#[]⟩, .int .i64 0, .slice none 0 0, .int .i64 0, .int .i64 0] 51) = w1 from HW1.out]
                clear HW1
                go_wp2_with fail
                refine (HC.out w1).mono ?_
                rintro e wb ⟨hbb, a, cap, rfl, hrep⟩
                have HZb := Lib.hid (HZ.out.later hbb)
                have HBb := Lib.hid (HB.out.trans (hbb.mono HB.out.size))
                obtain ⟨z0, z1, z2, z3, z4, z5⟩ := HZb.out.cells
                obtain ⟨f0, f1, f2, f3, f4, f5⟩ := HZb.out.cells'
                have HREP := Lib.hid hrep
                have hs1w : w.heap.size < w1.heap.size := by omega
                clear hbb hrep
                go_wp2
                have hrep2 : Rep (fun k => w.heap.size ≤ k) (set6 wb w.heap.size (.int .i64 r.k) (.string ⟨r.s.toArray⟩) (.int .i64 r.n) (.slice a r.l.length cap) (.int .i64 ((B.length : Int) - (t.length : Int))) (.int .i64 0)) r (rv r.k r.s r.n a r.l.length cap) :=
                  Rep.keeps (S := fun k => w1.heap.size ≤ k) (((((((Keeps.refl _ wb).setCell (p := ⟨w.heap.size, 0, none⟩) (.inr (by simp only; omega)) _).setCell (p := ⟨w.heap.size, 1, none⟩) (.inr (by simp only; omega)) _).setCell (p := ⟨w.heap.size, 2, none⟩) (.inr (by simp only; omega)) _).setCell (p := ⟨w.heap.size, 3, none⟩) (.inr (by simp only; omega)) _).setCell (p := ⟨w.heap.size, 4, none⟩) (.inr (by simp only; omega)) _).setCell (p := ⟨w.heap.size, 5, none⟩) (.inr (by simp only; omega)) _) (fun k h _ => by omega) _ _ HREP.out
                have hs := HZb.out.set (.int .i64 r.k) (.string ⟨r.s.toArray⟩) (.int .i64 r.n) (.slice a r.l.length cap) (.int .i64 ((B.length : Int) - (t.length : Int))) (.int .i64 0)
                have hb := set6_below HBb.out (b := w.heap.size) (by omega) (.int .i64 r.k) (.string ⟨r.s.toArray⟩) (.int .i64 r.n) (.slice a r.l.length cap) (.int .i64 ((B.length : Int) - (t.length : Int))) (.int .i64 0)
                show bodyPost _ _ _ .ret _ (set6 wb (w.heap.size) (.int .i64 r.k) (.string ⟨r.s.toArray⟩) (.int .i64 r.n) (.slice a r.l.length cap) (.int .i64 ((B.length : Int) - (t.length : Int))) (.int .i64 0))
                generalize set6 wb (w.heap.size) (.int .i64 r.k) (.string ⟨r.s.toArray⟩) (.int .i64 r.n) (.slice a r.l.length cap) (.int .i64 ((B.length : Int) - (t.length : Int))) (.int .i64 0) = wend at hs hb hrep2
                exact bodyPost_ret (results_cell rfl rfl (loadRd hs)) rfl ⟨hb, a, cap, rfl, hrep2⟩
            · have n42 : ¬ y = 42 := fun e => q42 (UInt8.toNat_inj.1 (by have : (42 : UInt8).toNat = 42 := rfl; omega))
              rw [if_neg q42]
              clear hdr hc hy hne
              obtain ⟨w1, hw1⟩ : ∃ w1, w.alloc (.cells #[.int .i64 0, .string ⟨#[]⟩, .int .i64 0, .slice none 0 0, .int .i64 0, .int .i64 0] 51) = w1 := ⟨_, rfl⟩
              have hz : Rd6 w1 w.heap.size (.int .i64 0) (.string ⟨#[]⟩) (.int .i64 0) (.slice none 0 0) (.int .i64 0) (.int .i64 0) := by rw [← hw1]; exact Rd6.new w _ _ _ _ _ _
              have hb1 : Below w.heap.size w w1 := by rw [← hw1]; exact (Below.refl _ w).alloc (Nat.le_refl _) _
              have hsz : w1.heap.size = w.heap.size + 1 := by rw [← hw1]; simp
              have HW1 := Lib.hid hw1
              have HZ := Lib.hid hz
              have HB := Lib.hid hb1
              clear hw1 hz hb1
              go_enter Tryz.func35, Tryz.ntmps35
              go_upto_region 1 with (fail)
              rw [show w.alloc (.cells #[.int .i64 0, .string ⟨#[]⟩, .int .i64 0, .slice none 0 0, .int .i64 0, .int .i64 0] 51) = w1 from HW1.out]
              clear HW1
              go_wp2_with fail
              refine (bad_any 5 w1).mono ?_
              rintro e wb ⟨rfl, hbb⟩
              unfold badV
              have HZb := Lib.hid (HZ.out.later hbb)
              have HBb := Lib.hid (HB.out.trans (hbb.mono HB.out.size))
              obtain ⟨z0, z1, z2, z3, z4, z5⟩ := HZb.out.cells
              obtain ⟨f0, f1, f2, f3, f4, f5⟩ := HZb.out.cells'
              clear hbb
              go_wp2
              have hs := HZb.out.set (.int .i64 0) (.string ⟨#[]⟩) (.int .i64 0) (.slice none 0 0) (.int .i64 0) (.int .i64 5)
              have hb := set6_below HBb.out (b := w.heap.size) (by omega) (.int .i64 0) (.string ⟨#[]⟩) (.int .i64 0) (.slice none 0 0) (.int .i64 0) (.int .i64 5)
              show bodyPost _ _ _ .ret _ (set6 wb (w.heap.size) (.int .i64 0) (.string ⟨#[]⟩) (.int .i64 0) (.slice none 0 0) (.int .i64 0) (.int .i64 5))
              generalize set6 wb (w.heap.size) (.int .i64 0) (.string ⟨#[]⟩) (.int .i64 0) (.slice none 0 0) (.int .i64 0) (.int .i64 5) = wend at hs hb
              exact bodyPost_ret (results_cell rfl rfl (loadRd hs)) rfl ⟨hb, by decide, rfl⟩
  · have h1I : (B.length : Int) ≤ (at_ : Int) := by omega
    have hr6 : Rp.replyD d (B.drop at_) = .err 6 := by
      rw [drop_end (by omega)]
      cases d <;> rw [Rp.replyD] <;> rfl
    rw [hr6]
    clear hr6
    obtain ⟨w1, hw1⟩ : ∃ w1, w.alloc (.cells #[.int .i64 0, .string ⟨#[]⟩, .int .i64 0, .slice none 0 0, .int .i64 0, .int .i64 0] 51) = w1 := ⟨_, rfl⟩
    have hz : Rd6 w1 w.heap.size (.int .i64 0) (.string ⟨#[]⟩) (.int .i64 0) (.slice none 0 0) (.int .i64 0) (.int .i64 0) := by rw [← hw1]; exact Rd6.new w _ _ _ _ _ _
    have hb1 : Below w.heap.size w w1 := by rw [← hw1]; exact (Below.refl _ w).alloc (Nat.le_refl _) _
    have hsz : w1.heap.size = w.heap.size + 1 := by rw [← hw1]; simp
    have HW1 := Lib.hid hw1
    have HZ := Lib.hid hz
    have HB := Lib.hid hb1
    clear hw1 hz hb1
    go_enter Tryz.func35, Tryz.ntmps35
    go_upto_region 1 with (fail)
    rw [show w.alloc (.cells #[.int .i64 0, .string ⟨#[]⟩, .int .i64 0, .slice none 0 0, .int .i64 0, .int .i64 0] 51) = w1 from HW1.out]
    clear HW1
    go_wp2_with fail
    refine (bad_any 6 w1).mono ?_
    rintro e wb ⟨rfl, hbb⟩
    unfold badV
    have HZb := Lib.hid (HZ.out.later hbb)
    have HBb := Lib.hid (HB.out.trans (hbb.mono HB.out.size))
    obtain ⟨z0, z1, z2, z3, z4, z5⟩ := HZb.out.cells
    obtain ⟨f0, f1, f2, f3, f4, f5⟩ := HZb.out.cells'
    clear hbb
    go_wp2
    have hs := HZb.out.set (.int .i64 0) (.string ⟨#[]⟩) (.int .i64 0) (.slice none 0 0) (.int .i64 0) (.int .i64 6)
    have hb := set6_below HBb.out (b := w.heap.size) (by omega) (.int .i64 0) (.string ⟨#[]⟩) (.int .i64 0) (.slice none 0 0) (.int .i64 0) (.int .i64 6)
    show bodyPost _ _ _ .ret _ (set6 wb (w.heap.size) (.int .i64 0) (.string ⟨#[]⟩) (.int .i64 0) (.slice none 0 0) (.int .i64 0) (.int .i64 6))
    generalize set6 wb (w.heap.size) (.int .i64 0) (.string ⟨#[]⟩) (.int .i64 0) (.slice none 0 0) (.int .i64 0) (.int .i64 6) = wend at hs hb
    exact bodyPost_ret (results_cell rfl rfl (loadRd hs)) rfl ⟨hb, by decide, rfl⟩

set_option maxRecDepth 100000 in
set_option maxHeartbeats 8000000 in
theorem reply_ref (B : List UInt8) (hl : B.length ≤ 3000) : ∀ d : Nat, d ≤ 8 → ∀ at_, at_ ≤ B.length → ∀ w,
    Calls Tryz.prog 35 #[.string ⟨B.toArray⟩, .int .i64 (at_ : Int), .int .i64 (d : Int)] w (RdR B.length w (Rp.replyD d (B.drop at_))) := by
  intro d
  induction d with
  | zero => exact fun _ => reply_step B 0 hl (by decide) (fun at_ hi w => by
      have := array_bad B at_ w
      exact this)
  | succ d ih =>
    intro hd
    exact reply_step B (d + 1) hl hd (fun at_ hi w => by
      have := array_ref B (Rp.replyD d) d at_ w hl hi (by omega) (Rp.replyD_inv d) (fun k hk w => ih (by omega) k hk w)
      exact this)
end Go.Proofs.YtbkhnnjjpelfcaaGreatDoor
