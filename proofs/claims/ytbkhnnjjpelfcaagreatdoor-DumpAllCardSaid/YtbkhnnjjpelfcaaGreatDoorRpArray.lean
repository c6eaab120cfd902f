/- The iterator over the replies that follow one another. The row of replies that an array is read into. The contract of the reader's array. -/
import Derived.Test.YtbkhnnjjpelfcaaGreatDoorRpBulk
import Derived.Deep.RegionHeld3
import Derived.Deep.AppendLies
import Derived.Test.YtbkhnnjjpelfcaaGreatDoorRpSeqs
import Derived.Shelf.RegionOpen
namespace Go.Proofs.YtbkhnnjjpelfcaaGreatDoor
open Go.RowKit Go.Shelf
attribute [local go_sem] Oper.semAt_some

namespace Rp
def IsSuf (t bs : List UInt8) : Prop := ∃ k, t = bs.drop k
theorem IsSuf.refl (bs : List UInt8) : IsSuf bs bs := ⟨0, by simp⟩
theorem IsSuf.trans {a b c : List UInt8} (h : IsSuf a b) (k : IsSuf b c) : IsSuf a c := by
  obtain ⟨i, rfl⟩ := h
  obtain ⟨j, rfl⟩ := k
  exact ⟨j + i, by rw [List.drop_drop]⟩

theorem manyP_snoc {f : List UInt8 → Out R} : ∀ {k : Nat} {bs t : List UInt8} {l : List R}, manyP f k bs = .ok l t → manyP f (k + 1) bs = (f t).bind fun r t' => .ok (l ++ [r]) t'
  | 0, bs, t, l, h => by
    injection h with h1 h2
    subst h1 h2
    unfold manyP
    cases f bs with
    | ok r t' => rfl
    | err c => rfl
  | k + 1, bs, t, l, h => by
    rw [manyP] at h
    rw [manyP]
    cases hf : f bs with
    | err c => rw [hf] at h; cases h
    | ok r t1 =>
      rw [hf] at h
      change (manyP f k t1).map (fun l => r :: l) = .ok l t at h
      change (manyP f (k + 1) t1).map (fun l => r :: l) = _
      cases hm : manyP f k t1 with
      | err c => rw [hm] at h; cases h
      | ok l' t' =>
        rw [hm] at h
        injection h with h1 h2
        subst h1 h2
        rw [manyP_snoc hm]
        cases f t' with
        | ok r' t'' => rfl
        | err c => rfl

theorem manyP_err {f : List UInt8 → Out R} {c : Int} : ∀ {k n : Nat} {bs : List UInt8}, k ≤ n → manyP f k bs = .err c → manyP f n bs = .err c
  | 0, _, _, _, h => by cases h
  | k + 1, 0, _, hle, _ => by omega
  | k + 1, n + 1, bs, hle, h => by
    rw [manyP] at h ⊢
    cases hf : f bs with
    | err c' => rw [hf] at h; exact h
    | ok r t1 =>
      rw [hf] at h
      change (manyP f k t1).map (fun l => r :: l) = .err c at h
      change (manyP f n t1).map (fun l => r :: l) = .err c
      cases hm : manyP f k t1 with
      | ok l' t' => rw [hm] at h; cases h
      | err c' =>
        rw [hm] at h
        injection h with h
        subst h
        rw [manyP_err (by omega) hm]
        rfl
end Rp

/-- a reply as the iterator hands it on. -/
structure EV where
  k : Int
  s : ByteArray
  n : Int
  a : Option Addr
  m : Nat
  cap : Nat
  c : Int
  r : Rp.R

def encE (x : EV) : Array Value := #[.agg #[.int .i64 x.k, .string x.s, .int .i64 x.n, .slice x.a x.m x.cap], .int .i64 x.c]

/-- what is told of it. -/
def TE (B : Nat) (x : EV) (W : World) : Prop := x.c = 0 → Rep (fun k => B ≤ k) W x.r (.agg #[.int .i64 x.k, .string x.s, .int .i64 x.n, .slice x.a x.m x.cap])

def SE (S : Nat → Prop) (Pb : Nat) (f : List UInt8 → Rp.Out Rp.R) (n : Nat) (bs : List UInt8) (xs : List EV) (W : World) : Prop :=
  ((∀ x ∈ xs, x.c = 0) ∧ ∃ t, Rp.manyP f n bs = .ok (xs.map EV.r) t ∧ Rst S Pb W t) ∨ ∃ x ∈ xs, x.c ≠ 0
def SpE (f : List UInt8 → Rp.Out Rp.R) (n : Nat) (bs : List UInt8) (pre : List EV) : Prop := ∃ p x, pre = p ++ [x] ∧ (x.c ≠ 0 → Rp.manyP f n bs = .err x.c)

theorem ROut.pack {S : Nat → Prop} {Pb : Nat} {w : World} {o : Rp.Out Rp.R} {k n : Int} {s : ByteArray} {a : Option Addr} {m cap : Nat} {c : Int} {w' : World} (h : ROut S Pb w o (.returned (.tuple #[.agg #[.int .i64 k, .string s, .int .i64 n, .slice a m cap], .int .i64 c])) w') :
    Keeps (fun k => k ≠ Pb) w w' ∧ ∃ r, (c = 0 → Rep (fun k => w.heap.size ≤ k) w' r (.agg #[.int .i64 k, .string s, .int .i64 n, .slice a m cap]) ∧ ∃ t', o = .ok r t' ∧ Rst S Pb w' t') ∧ (c ≠ 0 → o = .err c) := by
  obtain ⟨hk, h⟩ := h
  refine ⟨hk, ?_⟩
  cases o with
  | ok r t =>
    obtain ⟨⟨v, he, hr⟩, hs⟩ := h
    injection he with he
    injection he with he
    simp only [Array.mk.injEq, List.cons.injEq, Value.int.injEq, and_true, true_and] at he
    obtain ⟨rfl, hc⟩ := he
    exact ⟨r, fun _ => ⟨hr, t, rfl, hs⟩, fun h => absurd hc h⟩
  | err c' =>
    obtain ⟨hc, k', s', n', a', m', cap', he⟩ := h
    injection he with he
    injection he with he
    simp only [Array.mk.injEq, List.cons.injEq, Value.int.injEq, and_true, true_and] at he
    obtain ⟨_, rfl⟩ := he
    exact ⟨.mk 0 [] 0 [], fun h => absurd h hc, fun _ => rfl⟩

/-- what the iterator reads: the bytes, the library's own variables, its three boxes. -/
def DtE (S : Nat → Prop) (B0 k : Nat) : Prop := S k ∨ k < 8 ∨ (B0 ≤ k ∧ k < B0 + 3)
theorem dt_ne {S : Nat → Prop} {B0 Pb k : Nat} (hS : ¬ S Pb) (hPb : 8 ≤ Pb ∧ Pb < B0) (h : DtE S B0 k) : k ≠ Pb := by
  rintro rfl
  rcases h with h | h | h
  · exact hS h
  · omega
  · omega

set_option maxHeartbeats 1000000 in
theorem replies_any (Pb n d : Nat) (w : World) :
    CallsIn Fence.wide 0 Tryz.prog 73 #[.pointer (some ⟨Pb, 0, none⟩), .int .i64 n, .int .i64 d] w fun e w' =>
      e = .returned (.func (.func 99) #[] #[.pointer (some ⟨w.heap.size + 1, 0, none⟩), .pointer (some ⟨w.heap.size, 0, none⟩), .pointer (some ⟨w.heap.size + 2, 0, none⟩)]) ∧
      w' = ((w.alloc (.cells #[.pointer (some ⟨Pb, 0, none⟩)] 87)).alloc (.cells #[.int .i64 n] 3)).alloc (.cells #[.int .i64 d] 3) := by
  refine callsIn_of_wp Tryz.func73 rfl trivial ?_ rfl
  simp only [Tryz.ntmps73, List.size_toArray, List.length_cons, List.length_nil, Nat.reduceAdd, Nat.reduceSub, Array.replicate_succ, Array.replicate_zero, List.push_toArray, List.append_toArray, List.nil_append, List.cons_append]
  gi_wp2
  go_ret
  exact ⟨by simp, rfl⟩

set_option maxRecDepth 100000 in
set_option maxHeartbeats 4000000 in
theorem replies_seq (S : Nat → Prop) (Pb n d : Nat) (B0 : Nat) (f : List UInt8 → Rp.Out Rp.R) (bs : List UInt8) (w : World) (hn : n ≤ 65536)
    (hsuf : ∀ b r t, f b = .ok r t → Rp.IsSuf t b)
    (hf : ∀ b w', Rp.IsSuf b bs → Rst S Pb w' b → Env w' → (∀ k, S k → k < w'.heap.size) → CallsIn Fence.wide 0 Tryz.prog 31 #[.pointer (some ⟨Pb, 0, none⟩), .int .i64 d] w' (ROut S Pb w' (f b)))
    (hS : ¬ S Pb) (hSlt : ∀ k, S k → k < B0) (hPb : 8 ≤ Pb ∧ Pb < B0) (hB : B0 + 3 ≤ w.heap.size) (henv : Env w) (hr : Rst S Pb w bs)
    (hc : w.cell? ⟨B0 + 1, 0, none⟩ = some (.int .i64 n)) (hi : w.cell? ⟨B0, 0, none⟩ = some (.pointer (some ⟨Pb, 0, none⟩))) (hd : w.cell? ⟨B0 + 2, 0, none⟩ = some (.int .i64 d)) :
    SeqP Tryz.prog 99 #[.pointer (some ⟨B0 + 1, 0, none⟩), .pointer (some ⟨B0, 0, none⟩), .pointer (some ⟨B0 + 2, 0, none⟩)] encE (DtE S B0) (fun k => k = Pb) TE (SE S Pb f n bs) (SpE f n bs) n w := by
  intro l J Jx W hW hJ hJx hY h0
  have hszW := hW.size
  have HCELL : Hid (∀ W', Keeps (DtE S B0) W W' → W'.cell? ⟨B0 + 1, 0, none⟩ = some (.int .i64 n) ∧ W'.cell? ⟨B0, 0, none⟩ = some (.pointer (some ⟨Pb, 0, none⟩)) ∧ W'.cell? ⟨B0 + 2, 0, none⟩ = some (.int .i64 d)) := Lib.hid fun W' hk =>
    ⟨(hk.cell (p := ⟨B0 + 1, 0, none⟩) (by simp; omega) (.inr (.inr ⟨by simp, by simp⟩))).trans ((hW.cell (p := ⟨B0 + 1, 0, none⟩) (by simp; omega)).trans hc), (hk.cell (p := ⟨B0, 0, none⟩) (by simp; omega) (.inr (.inr ⟨by simp, by simp⟩))).trans ((hW.cell (p := ⟨B0, 0, none⟩) (by simp; omega)).trans hi),
      (hk.cell (p := ⟨B0 + 2, 0, none⟩) (by simp; omega) (.inr (.inr ⟨by simp, by simp⟩))).trans ((hW.cell (p := ⟨B0 + 2, 0, none⟩) (by simp; omega)).trans hd)⟩
  have hrW : Rst S Pb W bs := hr.keeps (Keeps.of_below hW fun k (h : k < w.heap.size) _ => h) (fun k hk => by have := hSlt k hk; omega) (by omega)
  have hEW : Env W := henv.later hW
  obtain ⟨i0, i1, i2⟩ := HCELL.out W (Keeps.refl _ _)
  clear hc hi hd hr henv
  refine callsIn_of_wp Tryz.func99 rfl trivial ?_ rfl
  simp only [Tryz.ntmps99, List.size_toArray, List.length_cons, List.length_nil, Nat.reduceAdd, Nat.reduceSub, Array.replicate_succ, Array.replicate_zero, List.push_toArray, List.append_toArray, List.nil_append, List.cons_append]
  gi_wp2
  clear i0 i1 i2
  gi_loopw [8] (fun i wr => ∃ (k : Nat) (xs : List EV) (t : List UInt8), k ≤ n ∧ i = .int .i64 k ∧ xs.length = k ∧ Hid (∀ x ∈ xs, x.c = 0) ∧ Hid (Rp.manyP f k bs = .ok (xs.map EV.r) t) ∧ Hid (Rp.IsSuf t bs) ∧ Hid (Rst S Pb wr t) ∧ Hid (J xs wr) ∧ Hid (Keeps (DtE S B0) W wr)) (fun i _ => n - (intOf i).toNat)
  case atStart => exact ⟨0, [], bs, Nat.zero_le _, rfl, rfl, Lib.hid (by simp), Lib.hid rfl, Lib.hid (Rp.IsSuf.refl _), Lib.hid hrW, Lib.hid h0, Lib.hid (Keeps.refl _ _)⟩
  case round =>
    obtain ⟨k, xs, t, hk, rfl, hxl, HX, HM, HS', HR, HJ, HK⟩ := hrel
    by_cases hlt : k < n
    · obtain ⟨i0, i1, i2⟩ := HCELL.out wr HK.out
      have hew : Env wr := hEW.keeps HK.out (fun k hk => .inr (.inl hk))
      have hszr := HK.out.size
      have hcall := hf t wr HS'.out HR.out hew (fun k hk => by have := hSlt k hk; omega)
      have hyl : xs.length < n := by omega
      have HYL := Lib.hid hyl
      have HXL := Lib.hid hxl
      have kI : (k : Int) < (n : Int) := by omega
      have kI2 : (k : Int) ≤ 65536 := by omega
      clear hxl hyl hew
      gi_wp2_with (refine ⟨trivial, rfl, ?_⟩; refine hcall.mono ?_; rintro e w2 ho; obtain ⟨x1, x2, x3, x4, x5, x6, c, rfl⟩ := ho.form; obtain ⟨hk2, r, hr0, hr1⟩ := ho.pack; obtain ⟨fn, tmps, assign, body, hy, hR⟩ := hY xs ⟨x1, x2, x3, x4, x5, x6, c, r⟩ (w2.alloc (.cells #[.int .i64 x1, .string x2, .int .i64 x3, .slice x4 x5 x6] 45)) (by simp; have := hk2.size; omega) (hJ _ _ _ HJ.out ((hk2.mono fun _ _ h => h).alloc _)) ⟨wr, by omega, HJ.out, (hk2.mono fun _ _ h => h).alloc _, fun hc => Rep.keeps ((Keeps.refl (fun k => wr.heap.size ≤ k) w2).alloc _) (fun k hk _ => hk) r _ (hr0 hc).1⟩ HYL.out; unfold encE at hy; have HK2 := Lib.hid hk2; have H0 := Lib.hid hr0; have H1 := Lib.hid hr1; have HRY := Lib.hid hR; clear hk2 hr0 hr1 hcall hR)
      refine ⟨rfl, HRY.out.mono ?_⟩
      rintro e W3 ⟨hk3, (⟨rfl, hJ3⟩ | ⟨rfl, hJx3⟩)⟩
      · by_cases hc0 : c = 0
        · subst hc0
          obtain ⟨-, t', hft, hst⟩ := H0.out rfl
          have hk3' : Keeps (fun k => DtE S B0 k ∨ k = Pb) w2 W3 := ((Keeps.refl _ w2).alloc _).trans hk3
          have HK3 : Hid (Keeps (DtE S B0) W W3) := Lib.hid (HK.out.trans ((HK2.out.mono fun k _ h => dt_ne hS hPb h).trans (hk3'.mono fun k _ h => .inl h)))
          have HST : Hid (Rst S Pb W3 t') := Lib.hid (hst.keeps hk3' (fun k hk => .inl (.inl hk)) (.inr rfl))
          have HM3 : Hid (Rp.manyP f (k + 1) bs = .ok ((xs ++ [(⟨x1, x2, x3, x4, x5, x6, 0, r⟩ : EV)]).map EV.r) t') := Lib.hid (by rw [Rp.manyP_snoc HM.out, hft, List.map_append]; rfl)
          have HSU : Hid (Rp.IsSuf t' bs) := Lib.hid ((hsuf _ _ _ hft).trans HS'.out)
          have HX3 : Hid (∀ x ∈ xs ++ [(⟨x1, x2, x3, x4, x5, x6, 0, r⟩ : EV)], x.c = 0) := Lib.hid fun x hx => by
            rcases List.mem_append.1 hx with h | h
            · exact HX.out x h
            · rw [List.mem_singleton.1 h]
          have HJ3 := Lib.hid hJ3
          clear hk3 hk3' hst hft hJ3
          gi_wp2
          go_roundw
          case rel => exact ⟨k + 1, _, t', by omega, by simp, by have := HXL.out; simp; omega, HX3, HM3, HSU, HST, HJ3, HK3⟩
          case measure => simp [intOf]; omega
        · have HJ3 : Hid ((∃ ys, SE S Pb f n bs ys W3 ∧ J ys W3) ∨ ∃ pre, SpE f n bs pre ∧ Jx pre W3) := Lib.hid (.inl ⟨_, .inr ⟨⟨x1, x2, x3, x4, x5, x6, c, r⟩, by simp, hc0⟩, hJ3⟩)
          have HSZ : Hid (W.heap.size ≤ W3.heap.size) := Lib.hid (by have h1 := hk3.size; have h2 := HK2.out.size; simp at h1; omega)
          clear hk3 hJ3
          gi_wp2
          refine bodyPost_ret (results_none rfl _ _ _) rfl ?_
          exact ⟨⟨_, rfl⟩, HSZ.out, HJ3.out⟩
      · have HJ3 : Hid ((∃ ys, SE S Pb f n bs ys W3 ∧ J ys W3) ∨ ∃ pre, SpE f n bs pre ∧ Jx pre W3) := Lib.hid (.inr ⟨_, ⟨xs, ⟨x1, x2, x3, x4, x5, x6, c, r⟩, rfl, fun hc => Rp.manyP_err (k := k + 1) (by omega) (by rw [Rp.manyP_snoc HM.out, H1.out hc]; rfl)⟩, hJx3⟩)
        have HSZ : Hid (W.heap.size ≤ W3.heap.size) := Lib.hid (by have h1 := hk3.size; have h2 := HK2.out.size; simp at h1; omega)
        clear hk3 hJx3
        gi_wp2
        refine bodyPost_ret (results_none rfl _ _ _) rfl ?_
        exact ⟨⟨_, rfl⟩, HSZ.out, HJ3.out⟩
    · obtain rfl : k = n := by omega
      gi_wp2
      go_end0
      exact ⟨⟨_, rfl⟩, HK.out.size, .inl ⟨xs, .inl ⟨HX.out, t, HM.out, HR.out⟩, HJ.out⟩⟩
end Go.Proofs.YtbkhnnjjpelfcaaGreatDoor
namespace Go.Proofs.YtbkhnnjjpelfcaaGreatDoor
open Go.RowKit Go.Shelf
attribute [local go_sem] Oper.semAt_some

theorem info24 : (Tryz.prog.info? 45).map (fun i => (i.zero, i.size, i.bytes)) = some (some (.agg #[.int .i64 0, .string ⟨#[]⟩, .int .i64 0, .slice none 0 0]), 4, 56) := by kernel_rfl

def agg4 (x : EV) : List Value := [.int .i64 x.k, .string x.s, .int .i64 x.n, .slice x.a x.m x.cap]
def flat4 (xs : List EV) : List Value := xs.flatMap agg4
theorem flat4_len (xs : List EV) : (flat4 xs).length = xs.length * 4 := by
  induction xs with
  | nil => rfl
  | cons x xs ih =>
    unfold flat4 at ih ⊢
    rw [List.flatMap_cons, List.length_append, ih]
    simp [agg4]
    omega
theorem flat4_snoc (xs : List EV) (x : EV) : flat4 (xs ++ [x]) = flat4 xs ++ agg4 x := by unfold flat4; rw [List.flatMap_append]; simp

/-- four stores into a row. -/
def set4o (A : World) (g o : Nat) (x y z u : Value) : World := (((A.setCell ⟨g, o, none⟩ x).setCell ⟨g, o + 1, none⟩ y).setCell ⟨g, o + 2, none⟩ z).setCell ⟨g, o + 3, none⟩ u

theorem owns_last {w : World} {base g n cap : Nat} {xs : List Value} {z0 z1 z2 z3 : Value} (h : w.ownsRow base 45 4 (.slice (some ⟨g, 0, none⟩) (n + 1) cap) (n + 1) (xs ++ [z0, z1, z2, z3])) (hx : xs.length = n * 4) (x y z u : Value) :
    (set4o w g (n * 4) x y z u).ownsRow base 45 4 (.slice (some ⟨g, 0, none⟩) (n + 1) cap) (n + 1) (xs ++ [x, y, z, u]) := by
  refine ⟨by simp [hx]; omega, ?_⟩
  rcases h.2 with ⟨hv, _⟩ | ⟨g', cap', cur, hv, hb, hg, h1, h2, h3, h4⟩
  · cases hv
  · injection hv with hv1 _ hv2
    injection hv1 with hv1
    injection hv1 with hv1 _ _
    subst hv1 hv2
    refine .inr ⟨g, cap, (((cur.setIfInBounds (n * 4) x).setIfInBounds (n * 4 + 1) y).setIfInBounds (n * 4 + 2) z).setIfInBounds (n * 4 + 3) u, rfl, hb, ?_, h1, h2, by simpa using h3, ?_⟩
    · simp [set4o, World.setCell, Array.getElem?_modify, hg]
    · simp only [Array.toList_setIfInBounds, List.take_set, h4]
      rw [← hx]
      simp

theorem row_cells {w : World} {base g n cap : Nat} {xs : List Value} {z0 z1 z2 z3 : Value} (h : w.ownsRow base 45 4 (.slice (some ⟨g, 0, none⟩) (n + 1) cap) (n + 1) (xs ++ [z0, z1, z2, z3])) (hx : xs.length = n * 4) :
    (w.cell? ⟨g, n * 4, none⟩ = some z0 ∧ w.cell? ⟨g, n * 4 + 1, none⟩ = some z1 ∧ w.cell? ⟨g, n * 4 + 2, none⟩ = some z2 ∧ w.cell? ⟨g, n * 4 + 3, none⟩ = some z3) ∧
    (w.frozen? ⟨g, n * 4, none⟩ = false ∧ w.frozen? ⟨g, n * 4 + 1, none⟩ = false ∧ w.frozen? ⟨g, n * 4 + 2, none⟩ = false ∧ w.frozen? ⟨g, n * 4 + 3, none⟩ = false) := by
  have hc := h.cells (g := g) rfl
  have e : ∀ j, (⟨g, 0, none⟩ : Addr).add j = ⟨g, j, none⟩ := fun j => by unfold Addr.add; split <;> simp_all
  refine ⟨⟨?_, ?_, ?_, ?_⟩, ?_⟩
  · have := hc (n * 4) z0 (by rw [← hx]; simp)
    rwa [e] at this
  · have := hc (n * 4 + 1) z1 (by rw [← hx]; simp)
    rwa [e] at this
  · have := hc (n * 4 + 2) z2 (by rw [← hx]; simp)
    rwa [e] at this
  · have := hc (n * 4 + 3) z3 (by rw [← hx]; simp)
    rwa [e] at this
  · rcases h.2 with ⟨hv, _⟩ | ⟨g', cap', cur, hv, hb, hg, _⟩
    · cases hv
    · injection hv with hv1 _ _
      injection hv1 with hv1
      injection hv1 with hv1 _ _
      subst hv1
      simp [World.frozen?, hg]

/-- the replies of a row, as a list. -/
theorem repL_of {S : Nat → Prop} {w : World} {g : Nat} : ∀ (xs : List EV) (o : Nat), (∀ j u, (flat4 xs)[j]? = some u → w.cell? ⟨g, o + j, none⟩ = some u) → (∀ x ∈ xs, Rep S w x.r (.agg (agg4 x).toArray)) → RepL S w (xs.map EV.r) g o
  | [], _, _, _ => by unfold RepL; trivial
  | x :: xs, o, h, hr => by
    have hf : flat4 (x :: xs) = agg4 x ++ flat4 xs := by unfold flat4; rw [List.flatMap_cons]
    rw [List.map_cons]
    unfold RepL
    refine ⟨⟨_, _, _, _, h 0 (.int .i64 x.k) (by rw [hf]; rfl), h 1 (.string x.s) (by rw [hf]; rfl), h 2 (.int .i64 x.n) (by rw [hf]; rfl), h 3 (.slice x.a x.m x.cap) (by rw [hf]; rfl), hr x (by simp)⟩, ?_⟩
    refine repL_of xs (o + 4) (fun j u hj => ?_) fun y hy => hr y (by simp [hy])
    rw [show o + 4 + j = o + (j + 4) by omega]
    refine h (j + 4) u ?_
    rw [hf, List.getElem?_append_right (by simp [agg4])]
    simpa [agg4] using hj

theorem Keeps.trans_lt {T U : Nat → Prop} {A B C : World} (h : Keeps T A B) (k : Keeps U B C) (hs : ∀ i, i < A.heap.size → T i → U i) : Keeps T A C :=
  ⟨k.os.trans h.os, k.tape.trans h.tape, k.output.trans h.output, Nat.le_trans h.size k.size, fun i hi ht => (k.block i (Nat.lt_of_lt_of_le hi h.size) (hs i hi ht)).trans (h.block i hi ht)⟩

/-- the row as the elements of a reply. -/
theorem row_rep {A : World} {Bs : Nat} {xs : List EV} {v : Value} (h : A.ownsRow Bs 45 4 v xs.length (flat4 xs)) (hl : xs.length ≤ 65536) (hr : ∀ x ∈ xs, Rep (fun k => Bs ≤ k) A x.r (.agg (agg4 x).toArray)) :
    ∃ a cap, v = .slice a xs.length cap ∧ Rep (fun k => Bs ≤ k) A (.mk 6 [] 0 (xs.map EV.r)) (.agg #[.int .i64 6, .string ⟨#[]⟩, .int .i64 0, .slice a xs.length cap]) := by
  have hm : maxLen = 9223372036854775807 := by decide
  rcases h.2 with ⟨rfl, h0⟩ | ⟨g, cap, cur, rfl, hb, hg, h1, h2, _⟩
  · have : xs = [] := List.eq_nil_of_length_eq_zero h0
    subst this
    exact ⟨none, 0, rfl, rep_plain (by unfold Fit; simp)⟩
  · refine ⟨_, cap, rfl, ?_⟩
    have hc := h.cells (g := g) rfl
    have e : ∀ j, (⟨g, 0, none⟩ : Addr).add j = ⟨g, j, none⟩ := fun j => by unfold Addr.add; split <;> simp_all
    have hR : RepL (fun k => Bs ≤ k) A (xs.map EV.r) g 0 := repL_of xs 0 (fun j u hj => by rw [Nat.zero_add, ← e j]; exact hc j u hj) hr
    have := Rep.intro (S := fun k => Bs ≤ k) (w := A) (k := 6) (s := []) (n := 0) (l := xs.map EV.r) (a := some ⟨g, 0, none⟩) (cap := cap) (by unfold Fit; simp; omega) (.inr ⟨g, 0, rfl, hb, (Array.getElem?_eq_some_iff.1 hg).1, hR⟩)
    rw [List.length_map] at this
    exact this

/-- the two results' boxes are stored. -/
def set5 (A : World) (b : Nat) (x y z u c : Value) : World := (set4 A b x y z u).setCell ⟨b + 1, 0, none⟩ c
theorem heap_five {A : World} {b : Nat} {p q r s o : Value} (h : A.heap[b]? = some (.cells #[p, q, r, s] 45 (0, 0))) (h2 : A.heap[b + 1]? = some (.cells #[o] 46 (0, 0))) (x y z u c : Value) :
    (set5 A b x y z u c).heap[b]? = some (.cells #[x, y, z, u] 45 (0, 0)) ∧ (set5 A b x y z u c).heap[b + 1]? = some (.cells #[c] 46 (0, 0)) := by
  refine ⟨?_, ?_⟩
  · exact (Below.heap_setCell _ _ _ _ (by simp)).trans (heap_four h x y z u)
  · refine heap_one (x := o) ?_ c
    unfold set4
    exact (Below.heap_setCell _ _ _ _ (by simp)).trans ((Below.heap_setCell _ _ _ _ (by simp)).trans ((Below.heap_setCell _ _ _ _ (by simp)).trans ((Below.heap_setCell _ _ _ _ (by simp)).trans h2)))
theorem keeps_set5 {T : Nat → Prop} {w A : World} (h : Keeps T w A) {b : Nat} (hb : w.heap.size ≤ b ∨ (¬ T b ∧ ¬ T (b + 1))) (x y z u c : Value) : Keeps T w (set5 A b x y z u c) :=
  (keeps_set4 h (hb.imp id And.left) x y z u).setCell (p := ⟨b + 1, 0, none⟩) (hb.imp (fun h => Nat.le_succ_of_le h) And.right) c

/-- an append as one step of a region that draws its order, in a round. -/
theorem stepIn_append {F : Fence} {n : Nat} {ops : Array Oper} {o : Oper} {a : Act} {w w' : World} {K : Act → World → Prop} {Q : Exit → Act → World → Prop} {E : Prop} {v' : Value} (hgd : o.guard = none) (s x : Operand) (t : TypeId)
    (ho : o.op = .call { callee := .builtin .append, args := #[s, x], argTypes := #[t, t] }) (vs vx : Value) (hs : a.eval s = vs) (hx : a.eval x = vx) (hrun : (Builtin.append_ #[t, t] o.type #[vs, vx]).run Tryz.prog w = .ok v' w') (h : K (a.put o.dst v') w') :
    if Region.wanted o (yielded ops a.tmps) = true then Oper.wpIn F n Tryz.prog o a w K Q else E := by
  have hw : Region.wanted o (yielded ops a.tmps) = true := by simp [Region.wanted, hgd]
  rw [if_pos hw]
  unfold Oper.wpIn
  refine ⟨by simp [Oper.about, ho, resolve, Target.leads, Sem.run_pure], ?_⟩
  rw [Oper.semAt_plain F _ _ (by rw [ho]; intro c hc'; cases hc')]
  simp [execOp, ho, resolve, invoke, builtin, hs, hx, hrun, Result.andThen]
  exact h

end Go.Proofs.YtbkhnnjjpelfcaaGreatDoor
namespace Go.Proofs.YtbkhnnjjpelfcaaGreatDoor
open Go.RowKit Go.Shelf
attribute [local go_sem] Oper.semAt_some

/-- between two rounds: the row l in its box, its replies, and the two results' boxes. -/
def AInv (w : World) (Pb Bl Bs : Nat) (pre : List EV) (W : World) : Prop :=
  (∃ v, Boxed W Bl 43 v ∧ W.ownsRow Bs 45 4 v pre.length (flat4 pre) ∧ ∀ x ∈ pre, x.c = 0 ∧ Rep (fun k => Bs ≤ k ∧ some k ≠ v.ownBlock) W x.r (.agg (agg4 x).toArray)) ∧
  Keeps (fun k => k ≠ Pb) w W ∧ W.heap[w.heap.size]? = some (.cells #[.int .i64 0, .string ⟨#[]⟩, .int .i64 0, .slice none 0 0] 45 (0, 0)) ∧ W.heap[w.heap.size + 1]? = some (.cells #[.int .i64 0] 46 (0, 0))

/-- left by an error. -/
def AEx (w : World) (Pb : Nat) (c : Code) (pre : List EV) (W : World) : Prop :=
  c = .ret ∧ (∃ p x, pre = p ++ [x] ∧ x.c ≠ 0 ∧ W.heap[w.heap.size + 1]? = some (.cells #[.int .i64 x.c] 46 (0, 0))) ∧
  Keeps (fun k => k ≠ Pb) w W ∧ W.heap[w.heap.size]? = some (.cells #[.int .i64 0, .string ⟨#[]⟩, .int .i64 0, .slice none 0 0] 45 (0, 0))

theorem manyP_len {f : List UInt8 → Rp.Out Rp.R} : ∀ {n : Nat} {bs t : List UInt8} {l : List Rp.R}, Rp.manyP f n bs = .ok l t → l.length = n
  | 0, bs, t, l, h => by
    injection h with h _
    subst h
    rfl
  | n + 1, bs, t, l, h => by
    rw [Rp.manyP] at h
    cases hf : f bs with
    | err c => rw [hf] at h; cases h
    | ok r t1 =>
      rw [hf] at h
      change (Rp.manyP f n t1).map (fun l => r :: l) = .ok l t at h
      cases hm : Rp.manyP f n t1 with
      | err c => rw [hm] at h; cases h
      | ok l' t' =>
        rw [hm] at h
        injection h with h _
        subst h
        rw [List.length_cons, manyP_len hm]

theorem wpAny4 {F : Fence} {n : Nat} {P : Program} {md : Region.Mode} {ops : Array Oper} {Q : Exit → Act → World → Prop} {listed : Array Bool} {a : Act} {w w4 : World} {L4 : Array Bool} {v34 v35 v36 v37 : Value}
    (h : wpAnyIn F n P md ops Q 4 L4 ((((a.put (some 34) v34).put (some 35) v35).put (some 36) v36).put (some 37) v37) w4)
    (k : wpAnyIn F n P md ops Q 4 L4 ((((a.put (some 34) v34).put (some 35) v35).put (some 36) v36).put (some 37) v37) w4 → wpAnyIn F n P md ops Q (4 + 4) listed a w) : wpAnyIn F n P md ops Q (4 + 4) listed a w := k h
theorem wpAnyIn_as {F : Fence} {n fuel : Nat} {P : Program} {md : Region.Mode} {ops : Array Oper} {Q : Exit → Act → World → Prop} {listed l' : Array Bool} {a a' : Act} {w : World} (hl : l' = listed) (ha : a' = a) (h : wpAnyIn F n P md ops Q fuel listed a w) : wpAnyIn F n P md ops Q fuel l' a' w := by
  rw [hl, ha]
  exact h

set_option maxRecDepth 100000 in
set_option maxHeartbeats 4000000 in
theorem array_any (d : Nat) (hd : d ≤ 1000) (f : List UInt8 → Rp.Out Rp.R) (S : Nat → Prop) (Pb : Nat) (bs : List UInt8) (w : World) (h : Rst S Pb w bs) (hS : ¬ S Pb) (hSlt : ∀ k, S k → k < w.heap.size) (henv : Env w) (hPb8 : 8 ≤ Pb)
    (hsuf : ∀ b r t, f b = .ok r t → Rp.IsSuf t b) (hnsuf : ∀ n t, Rp.devP 0 65536 bs = .ok n t → Rp.IsSuf t bs)
    (hf : ∀ b w', Rp.IsSuf b bs → Rst S Pb w' b → Env w' → (∀ k, S k → k < w'.heap.size) → CallsIn Fence.wide 0 Tryz.prog 31 #[.pointer (some ⟨Pb, 0, none⟩), .int .i64 d] w' (ROut S Pb w' (f b))) :
    CallsIn Fence.wide 0 Tryz.prog 49 #[.pointer (some ⟨Pb, 0, none⟩), .int .i64 ((d : Int) + 1)] w (ROut S Pb w (Rp.arrD f bs)) := by
  have hPb := h.lt
  obtain ⟨w2, hw2⟩ : ∃ w2, (w.alloc (.cells #[.int .i64 0, .string ⟨#[]⟩, .int .i64 0, .slice none 0 0] 45)).alloc (.cells #[.int .i64 0] 46) = w2 := ⟨_, rfl⟩
  have hk2 : Keeps (fun _ => True) w w2 := by rw [← hw2]; exact ((Keeps.refl _ _).alloc _).alloc _
  have hs2 : w2.heap.size = w.heap.size + 2 := by rw [← hw2]; simp
  have hbA : w2.heap[w.heap.size]? = some (.cells #[.int .i64 0, .string ⟨#[]⟩, .int .i64 0, .slice none 0 0] 45 (0, 0)) := by
    rw [← hw2]
    exact (Below.heap_alloc _ _ _ (by simp)).trans (World.alloc_heap_new w _)
  have hbE : w2.heap[w.heap.size + 1]? = some (.cells #[.int .i64 0] 46 (0, 0)) := by
    rw [← hw2]
    have := World.alloc_heap_new (w.alloc (.cells #[.int .i64 0, .string ⟨#[]⟩, .int .i64 0, .slice none 0 0] 45)) (.cells #[.int .i64 0] 46)
    rwa [World.size_alloc] at this
  have hr2 : Rst S Pb w2 bs := h.keeps hk2 (fun _ _ => trivial) trivial
  have hnum := rpNumber_any S Pb bs 0 65536 w2 hr2 hS (fun k hk => by have := hSlt k hk; omega) (by omega) (by omega) (by omega) (by omega) (henv.keeps hk2 (fun _ _ => trivial))
  have hnum := (callsIn_wide (n := 0)).2 hnum
  have HW2 := Lib.hid hw2
  have HK2 := Lib.hid hk2
  have HS2 := Lib.hid hs2
  have HBA := Lib.hid hbA
  have HBE := Lib.hid hbE
  have HSlt := Lib.hid hSlt
  have HENV := Lib.hid henv
  have dI : ¬ (d : Int) + 1 = 0 := by omega
  have dW : IntKind.i64.wrap ((d : Int) + 1 - 1) = (d : Int) := by rw [show (d : Int) + 1 - 1 = (d : Int) by omega]; exact IntWalk.i64_in _ (by omega)
  clear hw2 hk2 hs2 hbA hbE hr2 h henv hSlt
  refine callsIn_of_wp_marks Tryz.func49 rfl trivial ?_ rfl
  simp only [Tryz.ntmps49, List.size_toArray, List.length_cons, List.length_nil, Nat.reduceAdd, Nat.reduceSub, Array.replicate_succ, Array.replicate_zero, List.push_toArray, List.append_toArray, List.nil_append, List.cons_append]
  cases ho : Rp.devP 0 65536 bs with
  | err c =>
    rw [ho] at hnum
    have HR : Hid (Rp.arrD f bs = .err c) := Lib.hid (by unfold Rp.arrD; rw [ho]; rfl)
    have hc := devP_err ho
    have hc' : ¬ c = 0 := by omega
    clear ho hf
    gi_wp2_with (rw [HW2.out]; refine ⟨trivial, rfl, ?_⟩; refine hnum.mono ?_; rintro e w3 ⟨hk3, n, rfl⟩; have HK3 := Lib.hid hk3; obtain ⟨b0, b1, b2, b3, f0, f1, f2, f3⟩ := cells_four' (hk3.heap HBA.out (by omega)); have e0 := Boxed.cell (hk3.heap HBE.out (by omega)); have e1 := Boxed.frozen (hk3.heap HBE.out (by omega)); clear hk3)
    have hK3 := HK3.out
    obtain ⟨g0, g1⟩ := heap_five (hK3.heap HBA.out (by omega)) (hK3.heap HBE.out (by omega)) (.int .i64 0) (.string ⟨#[]⟩) (.int .i64 0) (.slice none 0 0) (.int .i64 c)
    obtain ⟨h0, h1, h2, h3⟩ := cells_four g0
    refine ⟨_, results_cell2 (t := 4) (T := 45) (u := 5) (U := 46) (p := ⟨w.heap.size, 0, none⟩) (q := ⟨w.heap.size + 1, 0, none⟩) rfl rfl (loadVar24 _ _ _ _ _ _ h0 h1 h2 h3) rfl (loadVar32 _ _ _ (Boxed.cell g1)), ?_⟩
    rw [HR.out]
    exact ⟨keeps_set5 ((HK2.out.mono fun _ _ _ => trivial).trans hK3) (.inl (Nat.le_refl _)) _ _ _ _ _, by omega, _, _, _, _, _, _, rfl⟩
  | ok n r =>
    rw [ho] at hnum
    obtain ⟨hn0, hn1, -⟩ := devP_range ho
    obtain ⟨m, rfl⟩ : ∃ m : Nat, n = m := ⟨n.toNat, by omega⟩
    have HR : Hid (Rp.arrD f bs = (Rp.manyP f m r).map fun l => .mk 6 [] 0 l) := Lib.hid (by unfold Rp.arrD; rw [ho]; rfl)
    have HSR := Lib.hid (hnsuf _ _ ho)
    clear ho
    have HRP : Hid (∀ w3 : World, CallsIn Fence.wide 0 Tryz.prog 73 #[.pointer (some ⟨Pb, 0, none⟩), .int .i64 m, .int .i64 d] (w3.alloc (.cells #[.slice none 0 0] 43)) fun e w' =>
      e = .returned (.func (.func 99) #[] #[.pointer (some ⟨w3.heap.size + 2, 0, none⟩), .pointer (some ⟨w3.heap.size + 1, 0, none⟩), .pointer (some ⟨w3.heap.size + 3, 0, none⟩)]) ∧
      w' = (((w3.alloc (.cells #[.slice none 0 0] 43)).alloc (.cells #[.pointer (some ⟨Pb, 0, none⟩)] 87)).alloc (.cells #[.int .i64 m] 3)).alloc (.cells #[.int .i64 d] 3)) := Lib.hid fun w3 => by
        have := replies_any Pb m d (w3.alloc (.cells #[.slice none 0 0] 43))
        rw [World.size_alloc] at this
        exact this
    gi_wp2_with (first
      | (rw [HW2.out]; refine ⟨trivial, rfl, ?_⟩; refine hnum.mono ?_; rintro e w3 ⟨hk3, rfl, hr3⟩; have HK3 := Lib.hid hk3; have HR3 := Lib.hid hr3; clear hk3 hr3 hnum)
      | (refine ⟨trivial, rfl, ?_⟩; refine (HRP.out w3).mono ?_; rintro e w5 ⟨rfl, hw5⟩; have HW5 := Lib.hid hw5; clear hw5 HRP))
    have hw5 := HW5.out
    clear HW5
    have hs3 : w.heap.size + 2 ≤ w3.heap.size := by have := HK3.out.size; have := HS2.out; omega
    have hk5 : Keeps (fun _ => True) w3 w5 := by rw [hw5]; exact ((((Keeps.refl _ _).alloc _).alloc _).alloc _).alloc _
    have hs5 : w5.heap.size = w3.heap.size + 4 := by rw [hw5]; simp
    have hbl : Boxed w5 w3.heap.size 43 (.slice none 0 0) := by rw [hw5]; exact (((Boxed.new w3 43 _).alloc _).alloc _).alloc _
    have hc1 : w5.cell? ⟨w3.heap.size + 1, 0, none⟩ = some (.pointer (some ⟨Pb, 0, none⟩)) := by
      rw [hw5]
      have := Boxed.new (w3.alloc (.cells #[.slice none 0 0] 43)) 87 (.pointer (some ⟨Pb, 0, none⟩))
      rw [World.size_alloc] at this
      exact Boxed.cell ((this.alloc _).alloc _)
    have hc2 : w5.cell? ⟨w3.heap.size + 2, 0, none⟩ = some (.int .i64 m) := by
      rw [hw5]
      have := Boxed.new ((w3.alloc (.cells #[.slice none 0 0] 43)).alloc (.cells #[.pointer (some ⟨Pb, 0, none⟩)] 87)) 3 (.int .i64 m)
      rw [World.size_alloc, World.size_alloc] at this
      exact Boxed.cell (this.alloc _)
    have hc3 : w5.cell? ⟨w3.heap.size + 3, 0, none⟩ = some (.int .i64 d) := by
      rw [hw5]
      have := Boxed.new (((w3.alloc (.cells #[.slice none 0 0] 43)).alloc (.cells #[.pointer (some ⟨Pb, 0, none⟩)] 87)).alloc (.cells #[.int .i64 m] 3)) 3 (.int .i64 d)
      rw [World.size_alloc, World.size_alloc, World.size_alloc] at this
      exact Boxed.cell this
    clear hw5
    have hkw5 : Keeps (fun k => k ≠ Pb) w w5 := ((HK2.out.mono fun _ _ _ => trivial).trans HK3.out).trans (hk5.mono fun _ _ _ => trivial)
    have hr5 : Rst S Pb w5 r := HR3.out.keeps hk5 (fun _ _ => trivial) trivial
    have he5 : Env w5 := HENV.out.keeps hkw5 (fun k hk => by omega)
    have hA5 := (hk5.heap (HK3.out.heap HBA.out (by omega)) trivial)
    have hE5 := (hk5.heap (HK3.out.heap HBE.out (by omega)) trivial)
    have hseq := replies_seq S Pb m d (w3.heap.size + 1) f r w5 (by omega) hsuf (fun b w' hb hr he hs => hf b w' (hb.trans HSR.out) hr he hs) hS (fun k hk => by have := HSlt.out k hk; omega) ⟨hPb8, by omega⟩ (by omega) he5 hr5 hc2 hc1 hc3
    clear hc1 hc2 hc3 he5 hr5 hf hsuf
    refine wpIn_rangeQ (gf := 99) (lb := #[.pointer (some ⟨w3.heap.size + 2, 0, none⟩), .pointer (some ⟨w3.heap.size + 1, 0, none⟩), .pointer (some ⟨w3.heap.size + 3, 0, none⟩)]) rfl (enters_of Tryz.func99 (by kernel_rfl) rfl)
      hseq (Below.refl _ _) (fun k h => by rcases h with h | h | h; have := HSlt.out k h; omega; omega; omega) (fun k h => by omega) (fun _ => rfl) ?hS ?hT
      (AInv w Pb w3.heap.size (w5.heap.size + 2)) (AEx w Pb) ?hI ?hIx ?hIl ?hIxl ⟨⟨_, hbl, World.ownsRow_nil _ _ _ _, fun x hx => absurd hx (by simp)⟩, hkw5, hA5, hE5⟩
      (fun x a' A => ∃ Bx, w5.heap.size + 2 ≤ Bx ∧ A.heap[Bx]? = some (.cells #[.int .i64 x.k, .string x.s, .int .i64 x.n, .slice x.a x.m x.cap] 45 (0, 0)) ∧ a' = { tmps := #[.pointer (some ⟨Pb, 0, none⟩), .int .i64 ((d : Int) + 1), undef, undef, .pointer (some ⟨w.heap.size, 0, none⟩), .pointer (some ⟨w.heap.size + 1, 0, none⟩), .int .i64 m, .int .i64 0, .pointer (some ⟨w3.heap.size, 0, none⟩), .pointer (some ⟨Bx, 0, none⟩), .int .i64 x.c, .int .i64 ((d : Int) + 1), .bool false, undef, .tuple #[.int .i64 m, .int .i64 0], .pointer (some ⟨Pb, 0, none⟩), .tuple #[.int .i64 m, .int .i64 0], .int .i64 m, .int .i64 0, .int .i64 0, .bool false, undef, undef, .pointer (some ⟨Pb, 0, none⟩), .int .i64 m, .int .i64 ((d : Int) + 1), .int .i64 d, .func (.func 99) #[] #[.pointer (some ⟨w3.heap.size + 2, 0, none⟩), .pointer (some ⟨w3.heap.size + 1, 0, none⟩), .pointer (some ⟨w3.heap.size + 3, 0, none⟩)], .agg #[.int .i64 x.k, .string x.s, .int .i64 x.n, .slice x.a x.m x.cap], .int .i64 x.c, undef, undef, undef, undef, undef, undef, undef, undef, undef, undef, undef, undef], defers := [] }) ?hAx ?assign ?body ?done ?stop
    case hS =>
      rintro xs A C h hk
      rcases h with ⟨h1, t, h2, h3⟩ | h
      · exact .inl ⟨h1, t, h2, h3.keeps hk (fun k hk => by have := HSlt.out k hk; omega) (by omega)⟩
      · exact .inr h
    case hT =>
      rintro b x A C hb h hk hc
      exact Rep.keeps (hk.mono fun k _ (h : b ≤ k) => by omega) (fun k h _ => h) x.r _ (h hc)
    case hI =>
      rintro s A C ⟨⟨v, h1, h2, h3⟩, h4, h5, h6⟩ hk
      exact ⟨⟨v, hk.heap h1 (by omega), owns_kept h2 hk (fun g hg => by have := (h2.lt g hg).1; omega), fun x hx => ⟨(h3 x hx).1, Rep.keeps (hk.mono fun k _ h => by omega) (fun k h _ => h) x.r _ (h3 x hx).2⟩⟩, h4.trans hk, hk.heap h5 (by omega), hk.heap h6 (by omega)⟩
    case hIx =>
      rintro c s A C ⟨h1, ⟨p, x, h2, h3, h4⟩, h5, h6⟩ hk
      exact ⟨h1, ⟨p, x, h2, h3, hk.heap h4 (by omega)⟩, h5.trans hk, hk.heap h6 (by omega)⟩
    case hIl =>
      rintro s A C ⟨⟨v, h1, h2, h3⟩, h4, h5, h6⟩ hk
      exact ⟨⟨v, hk.heap h1 (by omega), owns_kept h2 hk (fun g hg => by have := (h2.lt g hg).1; omega), fun x hx => ⟨(h3 x hx).1, Rep.keeps (hk.mono fun k _ h => by omega) (fun k h _ => h) x.r _ (h3 x hx).2⟩⟩, Keeps.trans_lt h4 hk (fun i hi _ => by omega), hk.heap h5 (by omega), hk.heap h6 (by omega)⟩
    case hIxl =>
      rintro c s A C ⟨h1, ⟨p, x, h2, h3, h4⟩, h5, h6⟩ hk
      exact ⟨h1, ⟨p, x, h2, h3, hk.heap h4 (by omega)⟩, Keeps.trans_lt h5 hk (fun i hi _ => by omega), hk.heap h6 (by omega)⟩
    case hAx =>
      rintro x a' A C ⟨Bx, h1, h2, h3⟩ hk
      exact ⟨Bx, h1, hk.heap h2 (by omega), h3⟩
    case assign =>
      intro pre x A K hA hI hK
      have HK := Lib.hid hK
      clear hK
      unfold encE
      gi_wp2
      obtain ⟨⟨v, h1, h2, h3⟩, h4, h5, h6⟩ := hI
      refine HK.out _ _ ((Keeps.refl _ _).alloc _) ⟨⟨v, h1.alloc _, h2.alloc _, fun x hx => ⟨(h3 x hx).1, Rep.keeps ((Keeps.refl _ A).alloc _) (fun k h _ => h) x.r _ (h3 x hx).2⟩⟩, h4.alloc _, ?_, ?_⟩ ⟨A.heap.size, by omega, World.alloc_heap_new A _, rfl⟩
      · exact ((Keeps.refl (fun _ => True) A).alloc _).heap h5 trivial
      · exact ((Keeps.refl (fun _ => True) A).alloc _).heap h6 trivial
    case body =>
      rintro pre x a' A hA ⟨q, hq⟩ ⟨⟨v, hv, hrow, hreps⟩, hkw, hba, hbe⟩ ⟨Bx, hBx, hcx, rfl⟩ hT hlen
      obtain ⟨b0, b1, b2, b3, f0, f1, f2, f3⟩ := cells_four' hba
      have e0 := Boxed.cell hbe
      have e1 := Boxed.frozen hbe
      by_cases hc0 : x.c = 0
      · obtain ⟨i0, hi, hz0, hz1, hz2⟩ := info_parts info24
        have hmix : Tryz.prog.follows .mixedOrders = true := by kernel_rfl
        have hpl : pre.length < 65536 := by omega
        obtain ⟨g, cap, W6, hrun, hown6, hgrow, hat, hlt⟩ := run_append_lies (P := Tryz.prog) ((A.alloc (.cells #[.int .i64 0, .string ⟨#[]⟩, .int .i64 0, .slice none 0 0] 45)).drew) 43 43 (w5.heap.size + 2) 45 i0 _ 4 56 Tryz.underlying43 hi hz0 hz1 hz2 rfl (by omega) v pre.length (flat4 pre) (hrow.alloc _)
          ⟨A.heap.size, 0, none⟩ 1 1 [.int .i64 0, .string ⟨#[]⟩, .int .i64 0, .slice none 0 0] rfl (World.news_of_block (cs := #[.int .i64 0, .string ⟨#[]⟩, .int .i64 0, .slice none 0 0]) (t := 45) (fr := (0, 0)) (World.alloc_heap_new A _)) (by simp [Value.oneCell']) (by omega) (by unfold maxLen; omega) (by omega) (by simp; omega) (A.heap.size + 1) (by simp)
        have hk6 : Keeps (fun k => some k ≠ v.ownBlock) A W6 := (((Keeps.refl _ A).alloc _).drew).trans (Keeps.of_grown hgrow fun r e h => h e.symm)
        have hx4 := flat4_len pre
        obtain ⟨⟨z0, z1, z2, z3⟩, y0, y1, y2, y3⟩ := row_cells hown6 hx4
        have hvg : ∀ k, v.ownBlock = some k → w5.heap.size + 2 ≤ k := fun k hk => (hrow.lt k hk).1
        have hv6 : Boxed W6 w3.heap.size 43 v := hk6.heap hv (fun e => by have := hvg _ e.symm; omega)
        have l6 := hv6.cell
        have l7 := hv6.frozen
        have l5 := hv.cell
        obtain ⟨p0, p1, p2, p3⟩ := cells_four hcx
        obtain ⟨va, vm, vc, rfl⟩ : ∃ va vm vc, v = .slice va vm vc := by
          rcases hrow.2 with ⟨rfl, _⟩ | ⟨_, _, _, rfl, _⟩
          · exact ⟨_, _, _, rfl⟩
          · exact ⟨_, _, _, rfl⟩
        have hvm : vm = pre.length := by
          rcases hrow.2 with ⟨h, h0⟩ | ⟨_, _, _, h, _⟩
          · injection h with _ h _
            rw [h, h0]
          · injection h
        subst hvm
        have nI : (pre.length : Int) < ((pre.length + 1 : Nat) : Int) := by omega
        have HHR := Lib.hid hrow
        have HO6 := Lib.hid hown6
        have HK6 := Lib.hid hk6
        have HG := Lib.hid hgrow
        have HHV := Lib.hid hv
        have HHP := Lib.hid hreps
        have HHW := Lib.hid hkw
        have HHA := Lib.hid hba
        have HHE := Lib.hid hbe
        have HHC := Lib.hid hcx
        obtain ⟨W0, hW0, ⟨⟨v0, hv0, hrow0, -⟩, -, -, -⟩, hkW, hT0⟩ := hT
        have hv00 := (hkW.heap hv0 ⟨by omega, by omega⟩).symm.trans hv
        obtain rfl : v0 = .slice va pre.length vc := by
          injection hv00 with hv00
          injection hv00 with hv00 _ _
          simpa using hv00
        have HVW : Hid (∀ k, (Value.slice va pre.length vc).ownBlock = some k → k < W0.heap.size) := Lib.hid fun k hk => (hrow0.lt k hk).2
        have HHT := Lib.hid (hT0 hc0)
        have HW0 := Lib.hid hW0
        clear hW0 hv0 hrow0 hkW hT0 hv00
        have HVG := Lib.hid hvg
        have HAT := Lib.hid hat
        have HLT := Lib.hid hlt
        clear hown6 hk6 hgrow hv hreps hkw hba hbe hcx hq hvg hat hlt hrow hv6 b0 b1 b2 b3 f0 f1 f2 f3 e0 e1 hx4
        gi_wp2
        have mI : (pre.length : Int) < (pre.length : Int) + 1 := by omega
        have gB : w5.heap.size + 2 ≤ g := by
          rcases HAT.out with h | h
          · exact HVG.out g h
          · omega
        have gN : ¬ g = w3.heap.size := by omega
        have gM : ¬ w3.heap.size = g := by omega
        have HX4 := flat4_len pre
        have HB6 : Boxed W6 w3.heap.size 43 (.slice va pre.length vc) := HK6.out.heap HHV.out (fun e => by have := HVG.out _ e.symm; omega)
        have HF : Hid (∀ W7, Keeps (fun k => k ≠ w3.heap.size ∧ k ≠ g) W6 W7 → Boxed W7 w3.heap.size 43 (.slice (some ⟨g, 0, none⟩) (pre.length + 1) cap) → W7.ownsRow (w5.heap.size + 2) 45 4 (.slice (some ⟨g, 0, none⟩) (pre.length + 1) cap) (pre.length + 1) (flat4 pre ++ agg4 x) →
            ownPostP (BodyS (DtE S (w3.heap.size + 1)) (fun k => k = Pb) w5.heap.size) (AInv w Pb w3.heap.size (w5.heap.size + 2)) (AEx w Pb) (pre ++ [x]) A .normal { tmps := #[], defers := [] } W7) := Lib.hid (by
          intro W7 hk hb ho
          have hk7 : Keeps (fun k => k ≠ w3.heap.size ∧ k ≠ g ∧ some k ≠ (Value.slice va pre.length vc).ownBlock) A W7 := (HK6.out.mono fun k _ h => h.2.2).trans (hk.mono fun k _ h => ⟨h.1, h.2.1⟩)
          have small : ∀ k, k < w5.heap.size + 2 → k ≠ w3.heap.size → k ≠ w3.heap.size ∧ k ≠ g ∧ some k ≠ (Value.slice va pre.length vc).ownBlock := fun k h1 h2 => ⟨h2, by omega, fun e => by have := HVG.out _ e.symm; omega⟩
          refine ⟨hk7.mono fun k _ h => ?_, ⟨_, hb, ?_, ?_⟩, Keeps.trans_lt HHW.out hk7 (fun i hi _ => small i (by omega) (by omega)), hk7.heap HHA.out (small _ (by omega) (by omega)), hk7.heap HHE.out (small _ (by omega) (by omega))⟩
          · rcases h with (h | h | h) | h | h | h
            · have := HSlt.out _ h; exact small k (by omega) (by omega)
            · exact small k (by omega) (by omega)
            · exact small k (by omega) (by omega)
            · exact small k (by omega) (by omega)
            · exact small k (by omega) (by omega)
            · exact small k (by omega) (by omega)
          · rw [flat4_snoc, List.length_append]
            exact ho
          · intro y hy
            rcases List.mem_append.1 hy with hy | hy
            · refine ⟨(HHP.out y hy).1, ?_⟩
              have hg : ∀ k, k < A.heap.size → some k ≠ (Value.slice va pre.length vc).ownBlock → k ≠ g := fun k hk hne e => by
                rcases HAT.out with h | h
                · exact hne (by rw [h, e])
                · omega
              refine Rep.keeps (hk7.mono fun k hlt (h : w5.heap.size + 2 ≤ k ∧ some k ≠ (Value.slice va pre.length vc).ownBlock) => ⟨by omega, hg k hlt h.2, h.2⟩) (fun k h hlt => ⟨h.1, fun e => hg k hlt h.2 ?_⟩) y.r _ (HHP.out y hy).2
              have e' : some k = some g := e
              injection e'
            · obtain rfl := List.mem_singleton.1 hy
              have hg : ∀ k, k < A.heap.size → W0.heap.size ≤ k → k ≠ g := fun k hk hne e => by
                rcases HAT.out with h | h
                · have := HVW.out _ h; omega
                · omega
              refine ⟨hc0, Rep.keeps (hk7.mono fun k hlt (h : W0.heap.size ≤ k) => ⟨by have := HW0.out; omega, hg k hlt h, fun e => by have := HVW.out _ e.symm; omega⟩) (fun k h hlt => ⟨by have := HW0.out; omega, fun e => hg k hlt h ?_⟩) y.r _ HHT.out⟩
              have e' : some k = some g := e
              injection e')
        have m5 := (HHV.out.alloc (.cells #[.int .i64 0, .string ⟨#[]⟩, .int .i64 0, .slice none 0 0] 45)).cell
        obtain ⟨m0, m1, m2, m3⟩ := cells_four (((Keeps.refl (fun _ => True) A).alloc (.cells #[.int .i64 0, .string ⟨#[]⟩, .int .i64 0, .slice none 0 0] 45)).heap HHC.out trivial)
        refine wpIn_region_any hmix ?_
        change wpAnyIn _ _ _ _ _ _ (4 + 4) _ _ (World.drew _)
        refine wpAny4 (w4 := (A.alloc (.cells #[.int .i64 0, .string ⟨#[]⟩, .int .i64 0, .slice none 0 0] 45)).drew) (L4 := #[true, true, true, true, false, false, false, false]) (v34 := .slice va pre.length vc) (v35 := .agg #[.int .i64 x.k, .string x.s, .int .i64 x.n, .slice x.a x.m x.cap]) (v36 := .int .i64 pre.length) (v37 := .slice (some ⟨A.heap.size, 0, none⟩) 1 1) ?rest (fun HREST => ?walk)
        case walk =>
          refine wpAnyIn_ready (rs := [0, 1, 3]) (by kernel_rfl) (by simp) ?_
          refine AllReadyIn.cons rfl (fun K hK => ?_) ?_
          · go_simp
            refine hK _ _ ?_; clear hK K
            refine wpAnyIn_ready (rs := [1, 2, 3]) (by kernel_rfl) (by simp) ?_
            refine AllReadyIn.cons rfl (fun K hK => ?_) ?_
            · go_simp
              refine hK _ _ ?_; clear hK K
              refine wpAnyIn_ready (rs := [2, 3]) (by kernel_rfl) (by simp) ?_
              refine AllReadyIn.cons rfl (fun K hK => ?_) ?_
              · go_simp
                refine hK _ _ ?_; clear hK K
                refine wpAnyIn_ready (rs := [3]) (by kernel_rfl) (by simp) ?_
                refine AllReadyIn.cons rfl (fun K hK => ?_) ?_
                · go_simp
                  refine hK _ _ ?_; clear hK K
                  refine wpAnyIn_as ?_ ?_ HREST
                  · kernel_rfl
                  · kernel_rfl
                exact AllReadyIn.nil
              refine AllReadyIn.cons rfl (fun K hK => ?_) ?_
              · go_simp
                refine hK _ _ ?_; clear hK K
                refine wpAnyIn_ready (rs := [2]) (by kernel_rfl) (by simp) ?_
                refine AllReadyIn.cons rfl (fun K hK => ?_) ?_
                · go_simp
                  refine hK _ _ ?_; clear hK K
                  refine wpAnyIn_as ?_ ?_ HREST
                  · kernel_rfl
                  · kernel_rfl
                exact AllReadyIn.nil
              exact AllReadyIn.nil
            refine AllReadyIn.cons rfl (fun K hK => ?_) ?_
            · go_simp
              refine hK _ _ ?_; clear hK K
              refine wpAnyIn_ready (rs := [1, 3]) (by kernel_rfl) (by simp) ?_
              refine AllReadyIn.cons rfl (fun K hK => ?_) ?_
              · go_simp
                refine hK _ _ ?_; clear hK K
                refine wpAnyIn_ready (rs := [3]) (by kernel_rfl) (by simp) ?_
                refine AllReadyIn.cons rfl (fun K hK => ?_) ?_
                · go_simp
                  refine hK _ _ ?_; clear hK K
                  refine wpAnyIn_as ?_ ?_ HREST
                  · kernel_rfl
                  · kernel_rfl
                exact AllReadyIn.nil
              refine AllReadyIn.cons rfl (fun K hK => ?_) ?_
              · go_simp
                refine hK _ _ ?_; clear hK K
                refine wpAnyIn_ready (rs := [1]) (by kernel_rfl) (by simp) ?_
                refine AllReadyIn.cons rfl (fun K hK => ?_) ?_
                · go_simp
                  refine hK _ _ ?_; clear hK K
                  refine wpAnyIn_as ?_ ?_ HREST
                  · kernel_rfl
                  · kernel_rfl
                exact AllReadyIn.nil
              exact AllReadyIn.nil
            refine AllReadyIn.cons rfl (fun K hK => ?_) ?_
            · go_simp
              refine hK _ _ ?_; clear hK K
              refine wpAnyIn_ready (rs := [1, 2]) (by kernel_rfl) (by simp) ?_
              refine AllReadyIn.cons rfl (fun K hK => ?_) ?_
              · go_simp
                refine hK _ _ ?_; clear hK K
                refine wpAnyIn_ready (rs := [2]) (by kernel_rfl) (by simp) ?_
                refine AllReadyIn.cons rfl (fun K hK => ?_) ?_
                · go_simp
                  refine hK _ _ ?_; clear hK K
                  refine wpAnyIn_as ?_ ?_ HREST
                  · kernel_rfl
                  · kernel_rfl
                exact AllReadyIn.nil
              refine AllReadyIn.cons rfl (fun K hK => ?_) ?_
              · go_simp
                refine hK _ _ ?_; clear hK K
                refine wpAnyIn_ready (rs := [1]) (by kernel_rfl) (by simp) ?_
                refine AllReadyIn.cons rfl (fun K hK => ?_) ?_
                · go_simp
                  refine hK _ _ ?_; clear hK K
                  refine wpAnyIn_as ?_ ?_ HREST
                  · kernel_rfl
                  · kernel_rfl
                exact AllReadyIn.nil
              exact AllReadyIn.nil
            exact AllReadyIn.nil
          refine AllReadyIn.cons rfl (fun K hK => ?_) ?_
          · go_simp
            refine hK _ _ ?_; clear hK K
            refine wpAnyIn_ready (rs := [0, 3]) (by kernel_rfl) (by simp) ?_
            refine AllReadyIn.cons rfl (fun K hK => ?_) ?_
            · go_simp
              refine hK _ _ ?_; clear hK K
              refine wpAnyIn_ready (rs := [2, 3]) (by kernel_rfl) (by simp) ?_
              refine AllReadyIn.cons rfl (fun K hK => ?_) ?_
              · go_simp
                refine hK _ _ ?_; clear hK K
                refine wpAnyIn_ready (rs := [3]) (by kernel_rfl) (by simp) ?_
                refine AllReadyIn.cons rfl (fun K hK => ?_) ?_
                · go_simp
                  refine hK _ _ ?_; clear hK K
                  refine wpAnyIn_as ?_ ?_ HREST
                  · kernel_rfl
                  · kernel_rfl
                exact AllReadyIn.nil
              refine AllReadyIn.cons rfl (fun K hK => ?_) ?_
              · go_simp
                refine hK _ _ ?_; clear hK K
                refine wpAnyIn_ready (rs := [2]) (by kernel_rfl) (by simp) ?_
                refine AllReadyIn.cons rfl (fun K hK => ?_) ?_
                · go_simp
                  refine hK _ _ ?_; clear hK K
                  refine wpAnyIn_as ?_ ?_ HREST
                  · kernel_rfl
                  · kernel_rfl
                exact AllReadyIn.nil
              exact AllReadyIn.nil
            refine AllReadyIn.cons rfl (fun K hK => ?_) ?_
            · go_simp
              refine hK _ _ ?_; clear hK K
              refine wpAnyIn_ready (rs := [0]) (by kernel_rfl) (by simp) ?_
              refine AllReadyIn.cons rfl (fun K hK => ?_) ?_
              · go_simp
                refine hK _ _ ?_; clear hK K
                refine wpAnyIn_ready (rs := [2]) (by kernel_rfl) (by simp) ?_
                refine AllReadyIn.cons rfl (fun K hK => ?_) ?_
                · go_simp
                  refine hK _ _ ?_; clear hK K
                  refine wpAnyIn_as ?_ ?_ HREST
                  · kernel_rfl
                  · kernel_rfl
                exact AllReadyIn.nil
              exact AllReadyIn.nil
            exact AllReadyIn.nil
          refine AllReadyIn.cons rfl (fun K hK => ?_) ?_
          · go_simp
            refine hK _ _ ?_; clear hK K
            refine wpAnyIn_ready (rs := [0, 1]) (by kernel_rfl) (by simp) ?_
            refine AllReadyIn.cons rfl (fun K hK => ?_) ?_
            · go_simp
              refine hK _ _ ?_; clear hK K
              refine wpAnyIn_ready (rs := [1, 2]) (by kernel_rfl) (by simp) ?_
              refine AllReadyIn.cons rfl (fun K hK => ?_) ?_
              · go_simp
                refine hK _ _ ?_; clear hK K
                refine wpAnyIn_ready (rs := [2]) (by kernel_rfl) (by simp) ?_
                refine AllReadyIn.cons rfl (fun K hK => ?_) ?_
                · go_simp
                  refine hK _ _ ?_; clear hK K
                  refine wpAnyIn_as ?_ ?_ HREST
                  · kernel_rfl
                  · kernel_rfl
                exact AllReadyIn.nil
              refine AllReadyIn.cons rfl (fun K hK => ?_) ?_
              · go_simp
                refine hK _ _ ?_; clear hK K
                refine wpAnyIn_ready (rs := [1]) (by kernel_rfl) (by simp) ?_
                refine AllReadyIn.cons rfl (fun K hK => ?_) ?_
                · go_simp
                  refine hK _ _ ?_; clear hK K
                  refine wpAnyIn_as ?_ ?_ HREST
                  · kernel_rfl
                  · kernel_rfl
                exact AllReadyIn.nil
              exact AllReadyIn.nil
            refine AllReadyIn.cons rfl (fun K hK => ?_) ?_
            · go_simp
              refine hK _ _ ?_; clear hK K
              refine wpAnyIn_ready (rs := [0]) (by kernel_rfl) (by simp) ?_
              refine AllReadyIn.cons rfl (fun K hK => ?_) ?_
              · go_simp
                refine hK _ _ ?_; clear hK K
                refine wpAnyIn_ready (rs := [2]) (by kernel_rfl) (by simp) ?_
                refine AllReadyIn.cons rfl (fun K hK => ?_) ?_
                · go_simp
                  refine hK _ _ ?_; clear hK K
                  refine wpAnyIn_as ?_ ?_ HREST
                  · kernel_rfl
                  · kernel_rfl
                exact AllReadyIn.nil
              exact AllReadyIn.nil
            exact AllReadyIn.nil
          exact AllReadyIn.nil
        case rest =>
          refine wpAnyIn_ready (rs := [4]) (by kernel_rfl) (by simp) ?_
          refine AllReadyIn.cons rfl (fun K hK => ?_) ?_
          · refine stepIn_append rfl _ _ _ rfl _ _ rfl rfl hrun ?_
            refine hK _ _ ?_; clear hK K
            refine wpAnyIn_ready (rs := [5, 7]) (by kernel_rfl) (by simp) ?_
            refine AllReadyIn.cons rfl (fun K hK => ?_) ?_
            · go_simp
              refine hK _ _ ?_; clear hK K
              refine wpAnyIn_ready (rs := [6, 7]) (by kernel_rfl) (by simp) ?_
              refine AllReadyIn.cons rfl (fun K hK => ?_) ?_
              · go_simp
                refine hK _ _ ?_; clear hK K
                refine wpAnyIn_ready (rs := [7]) (by kernel_rfl) (by simp) ?_
                refine AllReadyIn.cons rfl (fun K hK => ?_) ?_
                · go_simp
                  refine hK _ _ ?_; clear hK K
                  refine wpAnyIn_done (by kernel_rfl) ?_ _
                  refine HF.out _ ?_ ?_ ?_
                  · exact (((((Keeps.refl _ W6).setCell (.inr fun h => h.2 rfl) _).setCell (.inr fun h => h.2 rfl) _).setCell (.inr fun h => h.2 rfl) _).setCell (.inr fun h => h.2 rfl) _).setCell (.inr fun h => h.1 rfl) _
                  · exact heap_one (x := .slice va pre.length vc) (((((((Keeps.refl (fun k => k ≠ g) W6).setCell (.inr fun h => h rfl) _).setCell (.inr fun h => h rfl) _).setCell (.inr fun h => h rfl) _).setCell (.inr fun h => h rfl) _)).heap HB6 gM) _
                  · exact owns_kept (owns_last HO6.out HX4 _ _ _ _) ((Keeps.refl (fun k => k ≠ w3.heap.size) _).setCell (.inr fun h => h rfl) _) (fun k hk => by obtain rfl : g = k := Option.some.inj hk; exact gN)
                exact AllReadyIn.nil
              refine AllReadyIn.cons rfl (fun K hK => ?_) ?_
              · go_simp
                refine hK _ _ ?_; clear hK K
                refine wpAnyIn_ready (rs := [6]) (by kernel_rfl) (by simp) ?_
                refine AllReadyIn.cons rfl (fun K hK => ?_) ?_
                · go_simp
                  refine hK _ _ ?_; clear hK K
                  refine wpAnyIn_done (by kernel_rfl) ?_ _
                  refine HF.out _ ?_ ?_ ?_
                  · exact (((((Keeps.refl _ W6).setCell (.inr fun h => h.1 rfl) _).setCell (.inr fun h => h.2 rfl) _).setCell (.inr fun h => h.2 rfl) _).setCell (.inr fun h => h.2 rfl) _).setCell (.inr fun h => h.2 rfl) _
                  · exact ((((((Keeps.refl (fun k => k ≠ g) _).setCell (.inr fun h => h rfl) _).setCell (.inr fun h => h rfl) _).setCell (.inr fun h => h rfl) _).setCell (.inr fun h => h rfl) _)).heap (heap_one (x := .slice va pre.length vc) HB6 _) gM
                  · exact owns_last (owns_kept HO6.out ((Keeps.refl (fun k => k ≠ w3.heap.size) _).setCell (.inr fun h => h rfl) _) (fun k hk => by obtain rfl : g = k := Option.some.inj hk; exact gN)) HX4 _ _ _ _
                exact AllReadyIn.nil
              exact AllReadyIn.nil
            refine AllReadyIn.cons rfl (fun K hK => ?_) ?_
            · go_simp
              refine hK _ _ ?_; clear hK K
              refine wpAnyIn_ready (rs := [5]) (by kernel_rfl) (by simp) ?_
              refine AllReadyIn.cons rfl (fun K hK => ?_) ?_
              · go_simp
                refine hK _ _ ?_; clear hK K
                refine wpAnyIn_ready (rs := [6]) (by kernel_rfl) (by simp) ?_
                refine AllReadyIn.cons rfl (fun K hK => ?_) ?_
                · go_simp
                  refine hK _ _ ?_; clear hK K
                  refine wpAnyIn_done (by kernel_rfl) ?_ _
                  refine HF.out _ ?_ ?_ ?_
                  · exact (((((Keeps.refl _ W6).setCell (.inr fun h => h.1 rfl) _).setCell (.inr fun h => h.2 rfl) _).setCell (.inr fun h => h.2 rfl) _).setCell (.inr fun h => h.2 rfl) _).setCell (.inr fun h => h.2 rfl) _
                  · exact ((((((Keeps.refl (fun k => k ≠ g) _).setCell (.inr fun h => h rfl) _).setCell (.inr fun h => h rfl) _).setCell (.inr fun h => h rfl) _).setCell (.inr fun h => h rfl) _)).heap (heap_one (x := .slice va pre.length vc) HB6 _) gM
                  · exact owns_last (owns_kept HO6.out ((Keeps.refl (fun k => k ≠ w3.heap.size) _).setCell (.inr fun h => h rfl) _) (fun k hk => by obtain rfl : g = k := Option.some.inj hk; exact gN)) HX4 _ _ _ _
                exact AllReadyIn.nil
              exact AllReadyIn.nil
            exact AllReadyIn.nil
          · exact AllReadyIn.nil
      · have HF : Hid (ownPostP (BodyS (DtE S (w3.heap.size + 1)) (fun k => k = Pb) w5.heap.size) (AInv w Pb w3.heap.size (w5.heap.size + 2)) (AEx w Pb) (pre ++ [x]) A .ret { tmps := #[], defers := [] } (set5 A w.heap.size (.int .i64 0) (.string ⟨#[]⟩) (.int .i64 0) (.slice none 0 0) (.int .i64 x.c))) := Lib.hid (by
          obtain ⟨g0, g1⟩ := heap_five hba hbe (.int .i64 0) (.string ⟨#[]⟩) (.int .i64 0) (.slice none 0 0) (.int .i64 x.c)
          have h8 := HENV.out.size
          refine ⟨keeps_set5 (Keeps.refl _ A) (.inr ⟨?_, ?_⟩) _ _ _ _ _, rfl, ⟨pre, x, rfl, hc0, g1⟩, keeps_set5 hkw (.inl (Nat.le_refl _)) _ _ _ _ _, g0⟩
          · rintro ((h | h | h) | h | h | h)
            · have := HSlt.out _ h; omega
            · omega
            · omega
            · omega
            · omega
            · omega
          · rintro ((h | h | h) | h | h | h)
            · have := HSlt.out _ h; omega
            · omega
            · omega
            · omega
            · omega
            · omega)
        clear hv hrow hreps hkw hba hbe hcx hT hq
        gi_wp2
        exact HF.out
    case done =>
      rintro D xs A hD hDs - hSx ⟨⟨v, hv, hrow, hreps⟩, hkw, hba, hbe⟩ hDd
      obtain ⟨t, hm, hst⟩ : ∃ t, Rp.manyP f m r = .ok (xs.map EV.r) t ∧ Rst S Pb A t := by
        rcases hSx with ⟨_, t, h1, h2⟩ | ⟨x, hx, hc⟩
        · exact ⟨t, h1, h2⟩
        · exact absurd (hreps x hx).1 hc
      have hxl : xs.length ≤ 65536 := by
        have := manyP_len hm
        rw [List.length_map] at this
        omega
      obtain ⟨al, cl, rfl, hrep⟩ := row_rep hrow hxl (fun x hx => (hreps x hx).2.mono fun k h _ => h.1)
      have HRR : Hid (Rp.arrD f bs = .ok (.mk 6 [] 0 (xs.map EV.r)) t) := Lib.hid (by rw [HR.out, hm]; rfl)
      obtain ⟨b0, b1, b2, b3, f0, f1, f2, f3⟩ := cells_four' hba
      have e0 := Boxed.cell hbe
      have e1 := Boxed.frozen hbe
      have l0 := hv.cell
      have hz := heap_five hba hbe (.int .i64 6) (.string ⟨#[]⟩) (.int .i64 0) (.slice al xs.length cl) (.int .i64 0)
      have hk5 : Keeps (fun k => k ≠ w.heap.size ∧ k ≠ w.heap.size + 1) A (set5 A w.heap.size (.int .i64 6) (.string ⟨#[]⟩) (.int .i64 0) (.slice al xs.length cl) (.int .i64 0)) := keeps_set5 (Keeps.refl _ A) (.inr ⟨fun h => h.1 rfl, fun h => h.2 rfl⟩) _ _ _ _ _
      have HZ : Hid (∃ W', (Instr.takeDeferred D).run Tryz.prog (set5 A w.heap.size (.int .i64 6) (.string ⟨#[]⟩) (.int .i64 0) (.slice al xs.length cl) (.int .i64 0)) = .ok [] W' ∧ W'.heap[w.heap.size]? = some (.cells #[.int .i64 6, .string ⟨#[]⟩, .int .i64 0, .slice al xs.length cl] 45 (0, 0)) ∧ W'.heap[w.heap.size + 1]? = some (.cells #[.int .i64 0] 46 (0, 0)) ∧
          ROut S Pb w (.ok (.mk 6 [] 0 (xs.map EV.r)) t) (.returned (.tuple #[.agg #[.int .i64 6, .string ⟨#[]⟩, .int .i64 0, .slice al xs.length cl], .int .i64 0])) W') := Lib.hid (by
        have hDd' := hk5.heap hDd (by omega)
        have hkD : Keeps (fun k => k ≠ D) (set5 A w.heap.size (.int .i64 6) (.string ⟨#[]⟩) (.int .i64 0) (.slice al xs.length cl) (.int .i64 0)) ((set5 A w.heap.size (.int .i64 6) (.string ⟨#[]⟩) (.int .i64 0) (.slice al xs.length cl) (.int .i64 0)).putObj D (.deferred none)) := (Keeps.refl _ _).putObj (fun h => h rfl) _
        refine ⟨_, run_takeDeferred hDd', hkD.heap hz.1 (by omega), hkD.heap hz.2 (by omega), ?_, ⟨_, rfl, ?_⟩, ?_⟩
        · exact Keeps.trans_lt (keeps_set5 hkw (.inl (Nat.le_refl _)) _ _ _ _ _) hkD (fun i hi _ => by omega)
        · refine Rep.keeps (Keeps.trans_lt (T := fun k => w5.heap.size + 2 ≤ k) (hk5.mono fun k _ (h : w5.heap.size + 2 ≤ k) => by omega) hkD (fun i _ (h : w5.heap.size + 2 ≤ i) => by omega)) (fun k (h : w5.heap.size + 2 ≤ k) _ => by omega) _ _ hrep
        · exact (hst.keeps hk5 (fun k hk => by have := HSlt.out k hk; omega) (by omega)).keeps hkD (fun k hk => by have := HSlt.out k hk; omega) (by omega))
      clear hSx hv hrow hreps hkw hba hbe hDd hm hst hrep hz hk5
      gi_wp2
      obtain ⟨W', h1, h2, h3, h4⟩ := HZ.out
      obtain ⟨g0, g1, g2, g3⟩ := cells_four h2
      refine ⟨by simp, .inl ⟨_, _, rfl, h1, ?_⟩⟩
      refine ⟨_, results_cell2 (t := 4) (T := 45) (u := 5) (U := 46) (p := ⟨w.heap.size, 0, none⟩) (q := ⟨w.heap.size + 1, 0, none⟩) rfl rfl (loadVar24 _ _ _ _ _ _ g0 g1 g2 g3) rfl (loadVar32 _ _ _ (Boxed.cell h3)), ?_⟩
      rw [HRR.out]
      exact h4
    case stop =>
      rintro D c pre A hD hDs - ⟨p', x', hp', hm⟩ ⟨rfl, ⟨p, x, hp, hxc, hbe⟩, hkw, hba⟩ hDd
      obtain rfl : x = x' := by
        rw [hp] at hp'
        exact List.singleton_inj.1 (List.append_inj' hp' rfl).2
      have HRR : Hid (Rp.arrD f bs = .err x.c) := Lib.hid (by rw [HR.out, hm hxc]; rfl)
      obtain ⟨b0, b1, b2, b3⟩ := cells_four hba
      have e0 := Boxed.cell hbe
      have hk : Keeps (fun k => k ≠ D) A (A.putObj D (.deferred none)) := (Keeps.refl _ _).putObj (fun h => h rfl) _
      gi_wp2
      obtain ⟨g0, g1, g2, g3⟩ := cells_four (hk.heap hba (by omega))
      refine ⟨by simp, .inl ⟨_, _, rfl, run_takeDeferred hDd, ?_⟩⟩
      refine ⟨_, results_cell2 (t := 4) (T := 45) (u := 5) (U := 46) (p := ⟨w.heap.size, 0, none⟩) (q := ⟨w.heap.size + 1, 0, none⟩) rfl rfl (loadVar24 _ _ _ _ _ _ g0 g1 g2 g3) rfl (loadVar32 _ _ _ (Boxed.cell (hk.heap hbe (by omega)))), ?_⟩
      rw [HRR.out]
      exact ⟨Keeps.trans_lt hkw hk (fun i hi _ => by omega), hxc, _, _, _, _, _, _, rfl⟩
end Go.Proofs.YtbkhnnjjpelfcaaGreatDoor
