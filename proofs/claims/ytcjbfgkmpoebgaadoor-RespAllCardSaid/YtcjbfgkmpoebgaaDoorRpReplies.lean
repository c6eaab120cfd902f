/- The iterator over the replies that follow one another. -/
import Derived.Test.YtcjbfgkmpoebgaaDoorRpBulk
namespace Go.Proofs.YtcjbfgkmpoebgaaDoor
open Go.RowKit Go.Shelf
attribute [local go_sem] Oper.semAt_some

namespace Rp
def IsSuf (t bs : List UInt8) : Prop := ∃ k, t = bs.drop k
theorem IsSuf.refl (bs : List UInt8) : IsSuf bs bs := ⟨0, by simp⟩
theorem IsSuf.trans {a b c : List UInt8} (h : IsSuf a b) (k : IsSuf b c) : IsSuf a c := by
  obtain ⟨i, rfl⟩ := h
  obtain ⟨j, rfl⟩ := k
  exact ⟨j + i, by rw [List.drop_drop]⟩

theorem manyP_snoc {f : List UInt8 → Out R} : ∀ {k : Nat} {bs t : List UInt8} {l : List R}, manyP f k bs = .ok l t → manyP f (k + 1) bs = (f t).bind fun r t' => .ok (l ++ [r]) t'
  | 0, bs, t, l, h => by
    injection h with h1 h2
    subst h1 h2
    unfold manyP
    cases f bs with
    | ok r t' => rfl
    | err c => rfl
  | k + 1, bs, t, l, h => by
    rw [manyP] at h
    rw [manyP]
    cases hf : f bs with
    | err c => rw [hf] at h; cases h
    | ok r t1 =>
      rw [hf] at h
      change (manyP f k t1).map (fun l => r :: l) = .ok l t at h
      change (manyP f (k + 1) t1).map (fun l => r :: l) = _
      cases hm : manyP f k t1 with
      | err c => rw [hm] at h; cases h
      | ok l' t' =>
        rw [hm] at h
        injection h with h1 h2
        subst h1 h2
        rw [manyP_snoc hm]
        cases f t' with
        | ok r' t'' => rfl
        | err c => rfl

theorem manyP_err {f : List UInt8 → Out R} {c : Int} : ∀ {k n : Nat} {bs : List UInt8}, k ≤ n → manyP f k bs = .err c → manyP f n bs = .err c
  | 0, _, _, _, h => by cases h
  | k + 1, 0, _, hle, _ => by omega
  | k + 1, n + 1, bs, hle, h => by
    rw [manyP] at h ⊢
    cases hf : f bs with
    | err c' => rw [hf] at h; exact h
    | ok r t1 =>
      rw [hf] at h
      change (manyP f k t1).map (fun l => r :: l) = .err c at h
      change (manyP f n t1).map (fun l => r :: l) = .err c
      cases hm : manyP f k t1 with
      | ok l' t' => rw [hm] at h; cases h
      | err c' =>
        rw [hm] at h
        injection h with h
        subst h
        rw [manyP_err (by omega) hm]
        rfl
end Rp

/-- a reply as the iterator hands it on. -/
structure EV where
  k : Int
  s : ByteArray
  n : Int
  a : Option Addr
  m : Nat
  cap : Nat
  c : Int
  r : Rp.R

def encE (x : EV) : Array Value := #[.agg #[.int .i64 x.k, .string x.s, .int .i64 x.n, .slice x.a x.m x.cap], .int .i64 x.c]

/-- what is told of it. -/
def TE (B : Nat) (x : EV) (W : World) : Prop := x.c = 0 → Rep (fun k => B ≤ k) W x.r (.agg #[.int .i64 x.k, .string x.s, .int .i64 x.n, .slice x.a x.m x.cap])

def SE (S : Nat → Prop) (Pb : Nat) (f : List UInt8 → Rp.Out Rp.R) (n : Nat) (bs : List UInt8) (xs : List EV) (W : World) : Prop :=
  ((∀ x ∈ xs, x.c = 0) ∧ ∃ t, Rp.manyP f n bs = .ok (xs.map EV.r) t ∧ Rst S Pb W t) ∨ ∃ x ∈ xs, x.c ≠ 0
def SpE (f : List UInt8 → Rp.Out Rp.R) (n : Nat) (bs : List UInt8) (pre : List EV) : Prop := ∃ p x, pre = p ++ [x] ∧ (x.c ≠ 0 → Rp.manyP f n bs = .err x.c)

theorem ROut.pack {S : Nat → Prop} {Pb : Nat} {w : World} {o : Rp.Out Rp.R} {k n : Int} {s : ByteArray} {a : Option Addr} {m cap : Nat} {c : Int} {w' : World} (h : ROut S Pb w o (.returned (.tuple #[.agg #[.int .i64 k, .string s, .int .i64 n, .slice a m cap], .int .i64 c])) w') :
    Keeps (fun k => k ≠ Pb) w w' ∧ ∃ r, (c = 0 → Rep (fun k => w.heap.size ≤ k) w' r (.agg #[.int .i64 k, .string s, .int .i64 n, .slice a m cap]) ∧ ∃ t', o = .ok r t' ∧ Rst S Pb w' t') ∧ (c ≠ 0 → o = .err c) := by
  obtain ⟨hk, h⟩ := h
  refine ⟨hk, ?_⟩
  cases o with
  | ok r t =>
    obtain ⟨⟨v, he, hr⟩, hs⟩ := h
    injection he with he
    injection he with he
    simp only [Array.mk.injEq, List.cons.injEq, Value.int.injEq, and_true, true_and] at he
    obtain ⟨rfl, hc⟩ := he
    exact ⟨r, fun _ => ⟨hr, t, rfl, hs⟩, fun h => absurd hc h⟩
  | err c' =>
    obtain ⟨hc, k', s', n', a', m', cap', he⟩ := h
    injection he with he
    injection he with he
    simp only [Array.mk.injEq, List.cons.injEq, Value.int.injEq, and_true, true_and] at he
    obtain ⟨_, rfl⟩ := he
    exact ⟨.mk 0 [] 0 [], fun h => absurd h hc, fun _ => rfl⟩

/-- what the iterator reads: the bytes, the library's own variables, its three boxes. -/
def DtE (S : Nat → Prop) (B0 k : Nat) : Prop := S k ∨ k < 8 ∨ (B0 ≤ k ∧ k < B0 + 3)
theorem dt_ne {S : Nat → Prop} {B0 Pb k : Nat} (hS : ¬ S Pb) (hPb : 8 ≤ Pb ∧ Pb < B0) (h : DtE S B0 k) : k ≠ Pb := by
  rintro rfl
  rcases h with h | h | h
  · exact hS h
  · omega
  · omega

set_option maxHeartbeats 1000000 in
theorem replies_any (Pb n d : Nat) (w : World) :
    CallsIn Fence.wide 0 Tryd.prog 54 #[.pointer (some ⟨Pb, 0, none⟩), .int .i64 n, .int .i64 d] w fun e w' =>
      e = .returned (.func (.func 76) #[] #[.pointer (some ⟨w.heap.size + 1, 0, none⟩), .pointer (some ⟨w.heap.size, 0, none⟩), .pointer (some ⟨w.heap.size + 2, 0, none⟩)]) ∧
      w' = ((w.alloc (.cells #[.pointer (some ⟨Pb, 0, none⟩)] 66)).alloc (.cells #[.int .i64 n] 3)).alloc (.cells #[.int .i64 d] 3) := by
  refine callsIn_of_wp Tryd.func54 rfl trivial ?_ rfl
  simp only [Tryd.ntmps54, List.size_toArray, List.length_cons, List.length_nil, Nat.reduceAdd, Nat.reduceSub, Array.replicate_succ, Array.replicate_zero, List.push_toArray, List.append_toArray, List.nil_append, List.cons_append]
  gi_wp2
  go_ret
  exact ⟨by simp, rfl⟩

set_option maxRecDepth 100000 in
set_option maxHeartbeats 4000000 in
theorem replies_seq (S : Nat → Prop) (Pb n d : Nat) (B0 : Nat) (f : List UInt8 → Rp.Out Rp.R) (bs : List UInt8) (w : World) (hn : n ≤ 65536)
    (hsuf : ∀ b r t, f b = .ok r t → Rp.IsSuf t b)
    (hf : ∀ b w', Rp.IsSuf b bs → Rst S Pb w' b → Env w' → (∀ k, S k → k < w'.heap.size) → CallsIn Fence.wide 0 Tryd.prog 29 #[.pointer (some ⟨Pb, 0, none⟩), .int .i64 d] w' (ROut S Pb w' (f b)))
    (hS : ¬ S Pb) (hSlt : ∀ k, S k → k < B0) (hPb : 8 ≤ Pb ∧ Pb < B0) (hB : B0 + 3 ≤ w.heap.size) (henv : Env w) (hr : Rst S Pb w bs)
    (hc : w.cell? ⟨B0 + 1, 0, none⟩ = some (.int .i64 n)) (hi : w.cell? ⟨B0, 0, none⟩ = some (.pointer (some ⟨Pb, 0, none⟩))) (hd : w.cell? ⟨B0 + 2, 0, none⟩ = some (.int .i64 d)) :
    SeqP Tryd.prog 76 #[.pointer (some ⟨B0 + 1, 0, none⟩), .pointer (some ⟨B0, 0, none⟩), .pointer (some ⟨B0 + 2, 0, none⟩)] encE (DtE S B0) (fun k => k = Pb) TE (SE S Pb f n bs) (SpE f n bs) n w := by
  intro l J Jx W hW hJ hJx hY h0
  have hszW := hW.size
  have HCELL : Hid (∀ W', Keeps (DtE S B0) W W' → W'.cell? ⟨B0 + 1, 0, none⟩ = some (.int .i64 n) ∧ W'.cell? ⟨B0, 0, none⟩ = some (.pointer (some ⟨Pb, 0, none⟩)) ∧ W'.cell? ⟨B0 + 2, 0, none⟩ = some (.int .i64 d)) := Lib.hid fun W' hk =>
    ⟨(hk.cell (p := ⟨B0 + 1, 0, none⟩) (by simp; omega) (.inr (.inr ⟨by simp, by simp⟩))).trans ((hW.cell (p := ⟨B0 + 1, 0, none⟩) (by simp; omega)).trans hc), (hk.cell (p := ⟨B0, 0, none⟩) (by simp; omega) (.inr (.inr ⟨by simp, by simp⟩))).trans ((hW.cell (p := ⟨B0, 0, none⟩) (by simp; omega)).trans hi),
      (hk.cell (p := ⟨B0 + 2, 0, none⟩) (by simp; omega) (.inr (.inr ⟨by simp, by simp⟩))).trans ((hW.cell (p := ⟨B0 + 2, 0, none⟩) (by simp; omega)).trans hd)⟩
  have hrW : Rst S Pb W bs := hr.keeps (Keeps.of_below hW fun k (h : k < w.heap.size) _ => h) (fun k hk => by have := hSlt k hk; omega) (by omega)
  have hEW : Env W := henv.later hW
  obtain ⟨i0, i1, i2⟩ := HCELL.out W (Keeps.refl _ _)
  clear hc hi hd hr henv
  refine callsIn_of_wp Tryd.func76 rfl trivial ?_ rfl
  simp only [Tryd.ntmps76, List.size_toArray, List.length_cons, List.length_nil, Nat.reduceAdd, Nat.reduceSub, Array.replicate_succ, Array.replicate_zero, List.push_toArray, List.append_toArray, List.nil_append, List.cons_append]
  gi_wp2
  clear i0 i1 i2
  gi_loopw [8] (fun i wr => ∃ (k : Nat) (xs : List EV) (t : List UInt8), k ≤ n ∧ i = .int .i64 k ∧ xs.length = k ∧ Hid (∀ x ∈ xs, x.c = 0) ∧ Hid (Rp.manyP f k bs = .ok (xs.map EV.r) t) ∧ Hid (Rp.IsSuf t bs) ∧ Hid (Rst S Pb wr t) ∧ Hid (J xs wr) ∧ Hid (Keeps (DtE S B0) W wr)) (fun i _ => n - (intOf i).toNat)
  case atStart => exact ⟨0, [], bs, Nat.zero_le _, rfl, rfl, Lib.hid (by simp), Lib.hid rfl, Lib.hid (Rp.IsSuf.refl _), Lib.hid hrW, Lib.hid h0, Lib.hid (Keeps.refl _ _)⟩
  case round =>
    obtain ⟨k, xs, t, hk, rfl, hxl, HX, HM, HS', HR, HJ, HK⟩ := hrel
    by_cases hlt : k < n
    · obtain ⟨i0, i1, i2⟩ := HCELL.out wr HK.out
      have hew : Env wr := hEW.keeps HK.out (fun k hk => .inr (.inl hk))
      have hszr := HK.out.size
      have hcall := hf t wr HS'.out HR.out hew (fun k hk => by have := hSlt k hk; omega)
      have hyl : xs.length < n := by omega
      have HYL := Lib.hid hyl
      have HXL := Lib.hid hxl
      have kI : (k : Int) < (n : Int) := by omega
      have kI2 : (k : Int) ≤ 65536 := by omega
      clear hxl hyl hew
      gi_wp2_with (refine ⟨trivial, rfl, ?_⟩; refine hcall.mono ?_; rintro e w2 ho; obtain ⟨x1, x2, x3, x4, x5, x6, c, rfl⟩ := ho.form; obtain ⟨hk2, r, hr0, hr1⟩ := ho.pack; obtain ⟨fn, tmps, assign, body, hy, hR⟩ := hY xs ⟨x1, x2, x3, x4, x5, x6, c, r⟩ (w2.alloc (.cells #[.int .i64 x1, .string x2, .int .i64 x3, .slice x4 x5 x6] 24)) (by simp; have := hk2.size; omega) (hJ _ _ _ HJ.out ((hk2.mono fun _ _ h => h).alloc _)) ⟨wr, by omega, HJ.out, (hk2.mono fun _ _ h => h).alloc _, fun hc => Rep.keeps ((Keeps.refl (fun k => wr.heap.size ≤ k) w2).alloc _) (fun k hk _ => hk) r _ (hr0 hc).1⟩ HYL.out; unfold encE at hy; have HK2 := Lib.hid hk2; have H0 := Lib.hid hr0; have H1 := Lib.hid hr1; have HRY := Lib.hid hR; clear hk2 hr0 hr1 hcall hR)
      refine ⟨rfl, HRY.out.mono ?_⟩
      rintro e W3 ⟨hk3, (⟨rfl, hJ3⟩ | ⟨rfl, hJx3⟩)⟩
      · by_cases hc0 : c = 0
        · subst hc0
          obtain ⟨-, t', hft, hst⟩ := H0.out rfl
          have hk3' : Keeps (fun k => DtE S B0 k ∨ k = Pb) w2 W3 := ((Keeps.refl _ w2).alloc _).trans hk3
          have HK3 : Hid (Keeps (DtE S B0) W W3) := Lib.hid (HK.out.trans ((HK2.out.mono fun k _ h => dt_ne hS hPb h).trans (hk3'.mono fun k _ h => .inl h)))
          have HST : Hid (Rst S Pb W3 t') := Lib.hid (hst.keeps hk3' (fun k hk => .inl (.inl hk)) (.inr rfl))
          have HM3 : Hid (Rp.manyP f (k + 1) bs = .ok ((xs ++ [(⟨x1, x2, x3, x4, x5, x6, 0, r⟩ : EV)]).map EV.r) t') := Lib.hid (by rw [Rp.manyP_snoc HM.out, hft, List.map_append]; rfl)
          have HSU : Hid (Rp.IsSuf t' bs) := Lib.hid ((hsuf _ _ _ hft).trans HS'.out)
          have HX3 : Hid (∀ x ∈ xs ++ [(⟨x1, x2, x3, x4, x5, x6, 0, r⟩ : EV)], x.c = 0) := Lib.hid fun x hx => by
            rcases List.mem_append.1 hx with h | h
            · exact HX.out x h
            · rw [List.mem_singleton.1 h]
          have HJ3 := Lib.hid hJ3
          clear hk3 hk3' hst hft hJ3
          gi_wp2
          go_roundw
          case rel => exact ⟨k + 1, _, t', by omega, by simp, by have := HXL.out; simp; omega, HX3, HM3, HSU, HST, HJ3, HK3⟩
          case measure => simp [intOf]; omega
        · have HJ3 : Hid ((∃ ys, SE S Pb f n bs ys W3 ∧ J ys W3) ∨ ∃ pre, SpE f n bs pre ∧ Jx pre W3) := Lib.hid (.inl ⟨_, .inr ⟨⟨x1, x2, x3, x4, x5, x6, c, r⟩, by simp, hc0⟩, hJ3⟩)
          have HSZ : Hid (W.heap.size ≤ W3.heap.size) := Lib.hid (by have h1 := hk3.size; have h2 := HK2.out.size; simp at h1; omega)
          clear hk3 hJ3
          gi_wp2
          refine bodyPost_ret (results_none rfl _ _ _) rfl ?_
          exact ⟨⟨_, rfl⟩, HSZ.out, HJ3.out⟩
      · have HJ3 : Hid ((∃ ys, SE S Pb f n bs ys W3 ∧ J ys W3) ∨ ∃ pre, SpE f n bs pre ∧ Jx pre W3) := Lib.hid (.inr ⟨_, ⟨xs, ⟨x1, x2, x3, x4, x5, x6, c, r⟩, rfl, fun hc => Rp.manyP_err (k := k + 1) (by omega) (by rw [Rp.manyP_snoc HM.out, H1.out hc]; rfl)⟩, hJx3⟩)
        have HSZ : Hid (W.heap.size ≤ W3.heap.size) := Lib.hid (by have h1 := hk3.size; have h2 := HK2.out.size; simp at h1; omega)
        clear hk3 hJx3
        gi_wp2
        refine bodyPost_ret (results_none rfl _ _ _) rfl ?_
        exact ⟨⟨_, rfl⟩, HSZ.out, HJ3.out⟩
    · obtain rfl : k = n := by omega
      gi_wp2
      go_end0
      exact ⟨⟨_, rfl⟩, HK.out.size, .inl ⟨xs, .inl ⟨HX.out, t, HM.out, HR.out⟩, HJ.out⟩⟩
end Go.Proofs.YtcjbfgkmpoebgaaDoor
