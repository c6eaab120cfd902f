/- A reply that came in, however great: what the laws' many counts, and what is not great. -/
import Derived.Test.YtcjbfgkmpoebgaaDoorRpSame
import Derived.Test.YtcjbfgkmpoebgaaDoorRpEnc
import Derived.LoopTactic
namespace Go.Proofs.YtcjbfgkmpoebgaaDoor
open Go.RowKit Go.Shelf
attribute [local go_sem] Oper.semAt_some
set_option linter.unusedVariables false
set_option linter.unusedSimpArgs false

namespace Rp
mutual
def manyR (d : Nat) : R → Nat
  | .mk k s n l => if 20 < d ∨ 100 < l.length ∨ 700 < s.length then 1000 else manyL (d + 1) 1 l
def manyL (d : Nat) (acc : Nat) : List R → Nat
  | [] => acc
  | x :: l => if acc < 1000 then manyL d (acc + manyR d x) l else acc
end
theorem manyR_eq (d : Nat) (k : Int) (s : List UInt8) (n : Int) (l : List R) : manyR d (.mk k s n l) = if 20 < d ∨ 100 < l.length ∨ 700 < s.length then 1000 else manyL (d + 1) 1 l := by rw [manyR]
mutual
theorem manyR_le : ∀ (r : R) (d : Nat), d ≤ 21 → manyR d r ≤ 1000 * (22 - d)
  | .mk k s n l, d, hd => by
    rw [manyR_eq]
    split
    · omega
    · rename_i h
      have : d ≤ 20 := by omega
      have h2 := manyL_le l (d + 1) 1 (by omega) (by omega)
      omega
theorem manyL_le : ∀ (l : List R) (d acc : Nat), d ≤ 21 → acc ≤ 999 + 1000 * (22 - d) → manyL d acc l ≤ 999 + 1000 * (22 - d)
  | [], d, acc, hd, ha => by rw [manyL]; exact ha
  | x :: l, d, acc, hd, ha => by
    rw [manyL]
    split
    · have h1 := manyR_le x d hd
      exact manyL_le l d _ hd (by omega)
    · exact ha
end
/-- the count so far. -/
def manyTo (d : Nat) (l : List R) : Nat → Nat
  | 0 => 1
  | q + 1 => if manyTo d l q < 1000 then manyTo d l q + ((l[q]?).map (manyR d)).getD 0 else manyTo d l q
theorem manyL_stop (d : Nat) : ∀ (l : List R) (acc : Nat), 1000 ≤ acc → manyL d acc l = acc
  | [], _, _ => by rw [manyL]
  | x :: l, acc, h => by rw [manyL, if_neg (by omega)]
theorem manyL_drop (d : Nat) (l : List R) (q : Nat) (hq : q ≤ l.length) : manyL d 1 l = manyL d (manyTo d l q) (l.drop q) := by
  induction q with
  | zero => rw [manyTo, List.drop_zero]
  | succ q ih =>
    rw [ih (by omega), List.drop_eq_getElem_cons (show q < l.length by omega), manyL, manyTo]
    have e : (l[q]?).map (manyR d) = some (manyR d l[q]) := by simp [show q < l.length by omega]
    rw [e]
    split
    · rfl
    · rename_i h
      exact (manyL_stop d _ _ (by omega)).symm

/-- what not too many parts are. -/
def SmallH (p : H × Nat) : Prop := p.1.s.length ≤ 700 ∧ p.1.m ≤ 100
mutual
theorem small_of : ∀ (r : R) (d lev : Nat), manyR d r ≤ 400 → (heads lev r).length ≤ manyR d r ∧ ∀ p ∈ heads lev r, SmallH p
  | .mk k s n l, d, lev, h => by
    rw [manyR_eq] at h ⊢
    by_cases hc : 20 < d ∨ 100 < l.length ∨ 700 < s.length
    · rw [if_pos hc] at h; omega
    · rw [if_neg hc] at h ⊢
      obtain ⟨h1, h2⟩ := small_ofL l (d + 1) (lev + 1) 1 h
      rw [heads]
      refine ⟨by rw [List.length_cons]; omega, fun p hp => ?_⟩
      rcases List.mem_cons.1 hp with rfl | hp
      · exact ⟨by simp only; omega, by simp only; omega⟩
      · exact h2 p hp
theorem small_ofL : ∀ (l : List R) (d lev acc : Nat), manyL d acc l ≤ 400 → (headsL lev l).length + acc ≤ manyL d acc l ∧ ∀ p ∈ headsL lev l, SmallH p
  | [], d, lev, acc, h => by
    rw [manyL] at h ⊢
    rw [headsL]
    exact ⟨by simp, fun p hp => by cases hp⟩
  | x :: l, d, lev, acc, h => by
    rw [manyL] at h ⊢
    by_cases ha : acc < 1000
    · rw [if_pos ha] at h ⊢
      have hx : acc + manyR d x ≤ manyL d (acc + manyR d x) l := by
        have := (small_ofL l d lev (acc + manyR d x) h).1
        omega
      obtain ⟨h1, h2⟩ := small_ofL l d lev (acc + manyR d x) h
      obtain ⟨h3, h4⟩ := small_of x d lev (by omega)
      rw [headsL, List.length_append]
      refine ⟨by omega, fun p hp => ?_⟩
      rcases List.mem_append.1 hp with hp | hp
      · exact h4 p hp
      · exact h2 p hp
    · rw [if_neg ha] at h; omega
end

theorem own_len {h : H} (h0 : -9223372036854775808 ≤ h.n) (h1 : h.n ≤ 9223372036854775807) (hs : h.s.length ≤ 700) (hm : h.m ≤ 100) : (own h).length ≤ 760 := by
  have e1 := dec20 h0 h1
  have e2 := dec20 (n := (h.s.length : Int)) (by omega) (by omega)
  have e3 := dec20 (n := (h.m : Int)) (by omega) (by omega)
  have e4 := dec20 (n := -1) (by decide) (by decide)
  unfold own
  rw [List.length_append]
  have : crlf.length = 2 := rfl
  split
  · simp; omega
  · split
    · simp; omega
    · split
      · simp; omega
      · split
        · simp [this]; omega
        · split
          · simp; omega
          · split
            · simp; omega
            · simp [this]
mutual
theorem enc_le : ∀ (r : R) (lev : Nat), (∀ p ∈ heads lev r, SmallH p ∧ NumOk p.1) → (enc r).length ≤ 760 * (heads lev r).length
  | .mk k s n l, lev, h => by
    rw [enc, heads, List.length_append, List.length_cons]
    have h0 := h _ (by rw [heads]; exact List.mem_cons_self)
    have h1 := enc_leL l (lev + 1) fun p hp => h p (by rw [heads]; exact List.mem_cons_of_mem _ hp)
    have : (own ⟨k, s, n, l.length⟩).length ≤ 760 := own_len h0.2.1 h0.2.2 h0.1.1 h0.1.2
    omega
theorem enc_leL : ∀ (l : List R) (lev : Nat), (∀ p ∈ headsL lev l, SmallH p ∧ NumOk p.1) → (encL l).length ≤ 760 * (headsL lev l).length
  | [], lev, h => by rw [encL, headsL]; simp
  | x :: l, lev, h => by
    rw [encL, headsL, List.length_append, List.length_append]
    have h0 := enc_le x lev fun p hp => h p (by rw [headsL]; exact List.mem_append_left _ hp)
    have h1 := enc_leL l lev fun p hp => h p (by rw [headsL]; exact List.mem_append_right _ hp)
    omega
end
end Rp

/-- how a reply that came in may be, however great. -/
def FitW (k : Int) (s : List UInt8) (n : Int) (m cap : Nat) : Prop :=
  -9223372036854775808 ≤ k ∧ k ≤ 9223372036854775807 ∧ -9223372036854775808 ≤ n ∧ n ≤ 9223372036854775807 ∧ s.length ≤ 9223372036854775807 ∧ m ≤ cap ∧ cap ≤ 9223372036854775807
mutual
def RepW (w : World) : Rp.R → Value → Prop
  | .mk k s n l, v => ∃ a cap, v = rv k s n a l.length cap ∧ FitW k s n l.length cap ∧ (l = [] ∨ ∃ b off, a = some ⟨b, off, none⟩ ∧ b < w.heap.size ∧ RepWL w l b off)
def RepWL (w : World) : List Rp.R → Nat → Nat → Prop
  | [], _, _ => True
  | r :: l, b, off => (∃ v0 v1 v2 v3, w.cell? ⟨b, off, none⟩ = some v0 ∧ w.cell? ⟨b, off + 1, none⟩ = some v1 ∧ w.cell? ⟨b, off + 2, none⟩ = some v2 ∧ w.cell? ⟨b, off + 3, none⟩ = some v3 ∧ RepW w r (.agg #[v0, v1, v2, v3])) ∧ RepWL w l b (off + 4)
end
mutual
theorem RepW.later {w w' : World} (hb : Below w.heap.size w w') : ∀ (r : Rp.R) (v : Value), RepW w r v → RepW w' r v
  | .mk k s n l, v, h => by
    unfold RepW at h ⊢
    obtain ⟨a, cap, hv, hf, h⟩ := h
    refine ⟨a, cap, hv, hf, ?_⟩
    rcases h with h | ⟨b, off, ha, hlt, hl⟩
    · exact .inl h
    · exact .inr ⟨b, off, ha, Nat.lt_of_lt_of_le hlt hb.size, RepWL.later hb l b off hlt hl⟩
theorem RepWL.later {w w' : World} (hb : Below w.heap.size w w') : ∀ (l : List Rp.R) (b off : Nat), b < w.heap.size → RepWL w l b off → RepWL w' l b off
  | [], _, _, _, _ => by unfold RepWL; trivial
  | r :: l, b, off, hlt, h => by
    unfold RepWL at h ⊢
    obtain ⟨⟨v0, v1, v2, v3, c0, c1, c2, c3, hr⟩, hl⟩ := h
    exact ⟨⟨v0, v1, v2, v3, (hb.cell (p := ⟨b, off, none⟩) hlt).trans c0, (hb.cell (p := ⟨b, off + 1, none⟩) hlt).trans c1, (hb.cell (p := ⟨b, off + 2, none⟩) hlt).trans c2, (hb.cell (p := ⟨b, off + 3, none⟩) hlt).trans c3, RepW.later hb r _ hr⟩, RepWL.later hb l b (off + 4) hlt hl⟩
end
mutual
theorem RepW.rep {w : World} : ∀ (r : Rp.R) (v : Value), RepW w r v → (∀ p ∈ Rp.heads 0 r, Rp.SmallH p) → RepA w r v
  | .mk k s n l, v, h, hs => by
    unfold RepW at h
    obtain ⟨a, cap, hv, hf, h⟩ := h
    have h0 := hs _ (by rw [Rp.heads]; exact List.mem_cons_self)
    obtain ⟨s1, s2⟩ := h0
    simp only at s1 s2
    unfold RepA Rep
    unfold FitW at hf
    refine ⟨a, cap, hv, ?_, ?_⟩
    · unfold Fit; omega
    · rcases h with h | ⟨b, off, ha, hlt, hl⟩
      · exact .inl h
      · exact .inr ⟨b, off, ha, trivial, hlt, RepWL.rep l 1 b off hl fun p hp => hs p (by rw [Rp.heads]; exact List.mem_cons_of_mem _ hp)⟩
theorem RepWL.rep {w : World} : ∀ (l : List Rp.R) (lev b off : Nat), RepWL w l b off → (∀ p ∈ Rp.headsL lev l, Rp.SmallH p) → RepL (fun _ => True) w l b off
  | [], _, _, _, _, _ => by unfold RepL; trivial
  | r :: l, lev, b, off, h, hs => by
    unfold RepWL at h
    unfold RepL
    obtain ⟨⟨v0, v1, v2, v3, c0, c1, c2, c3, hr⟩, hl⟩ := h
    refine ⟨⟨v0, v1, v2, v3, c0, c1, c2, c3, RepW.rep r _ hr fun p hp => ?_⟩, RepWL.rep l lev b (off + 4) hl fun p hp => hs p (by rw [Rp.headsL]; exact List.mem_append_right _ hp)⟩
    have hsm : ∀ q ∈ Rp.heads lev r, Rp.SmallH q := fun q hq => hs q (by rw [Rp.headsL]; exact List.mem_append_left _ hq)
    exact small_lev r 0 lev hsm p hp
theorem small_lev : ∀ (r : Rp.R) (a b : Nat), (∀ p ∈ Rp.heads b r, Rp.SmallH p) → ∀ p ∈ Rp.heads a r, Rp.SmallH p
  | .mk k s n l, a, b, h, p, hp => by
    rw [Rp.heads] at hp
    rcases List.mem_cons.1 hp with rfl | hp
    · exact h (_, b) (by rw [Rp.heads]; exact List.mem_cons_self)
    · exact small_levL l (a + 1) (b + 1) (fun q hq => h q (by rw [Rp.heads]; exact List.mem_cons_of_mem _ hq)) p hp
theorem small_levL : ∀ (l : List Rp.R) (a b : Nat), (∀ p ∈ Rp.headsL b l, Rp.SmallH p) → ∀ p ∈ Rp.headsL a l, Rp.SmallH p
  | [], a, b, h, p, hp => by rw [Rp.headsL] at hp; cases hp
  | x :: l, a, b, h, p, hp => by
    rw [Rp.headsL] at hp
    rcases List.mem_append.1 hp with hp | hp
    · exact small_lev x a b (fun q hq => h q (by rw [Rp.headsL]; exact List.mem_append_left _ hq)) p hp
    · exact small_levL l a b (fun q hq => h q (by rw [Rp.headsL]; exact List.mem_append_right _ hq)) p hp
end

theorem RepWL.get {w : World} : ∀ (l : List Rp.R) (b off : Nat), RepWL w l b off → ∀ j (h : j < l.length), ∃ v0 v1 v2 v3, w.cell? ⟨b, off + j * 4, none⟩ = some v0 ∧ w.cell? ⟨b, off + j * 4 + 1, none⟩ = some v1 ∧ w.cell? ⟨b, off + j * 4 + 2, none⟩ = some v2 ∧ w.cell? ⟨b, off + j * 4 + 3, none⟩ = some v3 ∧ RepW w l[j] (.agg #[v0, v1, v2, v3])
  | [], _, _, _, j, h => by simp at h
  | r :: l, b, off, h, 0, _ => by
    unfold RepWL at h
    simpa using h.1
  | r :: l, b, off, h, j + 1, hj => by
    unfold RepWL at h
    have := RepWL.get l b (off + 4) h.2 j (by simpa using hj)
    rw [show off + 4 + j * 4 = off + (j + 1) * 4 by omega] at this
    simpa using this
theorem RepW.parts {w : World} {r : Rp.R} {v : Value} (h : RepW w r v) : ∃ a cap, v = rv r.k r.s r.n a r.l.length cap := by
  obtain ⟨k, s, n, l⟩ := r
  unfold RepW at h
  obtain ⟨a, cap, hv, -⟩ := h
  exact ⟨a, cap, hv⟩
theorem RepW.at {w : World} {k n : Int} {s : List UInt8} {l : List Rp.R} {a : Option Addr} {m cap : Nat} (h : RepW w (.mk k s n l) (rv k s n a m cap)) :
    FitW k s n l.length cap ∧ (l = [] ∨ ∃ b off, a = some ⟨b, off, none⟩ ∧ b < w.heap.size ∧ ∀ j (h : j < l.length), ∃ aj cj, w.cell? ⟨b, off + j * 4, none⟩ = some (.int .i64 l[j].k) ∧ w.cell? ⟨b, off + j * 4 + 1, none⟩ = some (.string ⟨l[j].s.toArray⟩) ∧ w.cell? ⟨b, off + j * 4 + 2, none⟩ = some (.int .i64 l[j].n) ∧ w.cell? ⟨b, off + j * 4 + 3, none⟩ = some (.slice aj l[j].l.length cj) ∧ RepW w l[j] (rv l[j].k l[j].s l[j].n aj l[j].l.length cj)) := by
  unfold RepW at h
  obtain ⟨a', cap', hv, hf, hl⟩ := h
  unfold rv at hv
  simp only [Value.agg.injEq, Array.mk.injEq, List.cons.injEq, and_true, true_and, Value.slice.injEq] at hv
  obtain ⟨rfl, -, rfl⟩ := hv
  refine ⟨hf, ?_⟩
  rcases hl with hl | ⟨b, off, rfl, hlt, hr⟩
  · exact .inl hl
  · refine .inr ⟨b, off, rfl, hlt, fun j hj => ?_⟩
    obtain ⟨v0, v1, v2, v3, c0, c1, c2, c3, hrep⟩ := RepWL.get l b off hr j hj
    obtain ⟨a2, cap2, hv2⟩ := hrep.parts
    have hrep2 := hrep
    rw [hv2] at hrep2
    unfold rv at hv2
    simp only [Value.agg.injEq, Array.mk.injEq, List.cons.injEq, and_true] at hv2
    obtain ⟨rfl, rfl, rfl, rfl⟩ := hv2
    exact ⟨a2, cap2, c0, c1, c2, c3, hrep2⟩

set_option maxRecDepth 100000 in
set_option maxHeartbeats 8000000 in
theorem many_any : ∀ (N : Nat) (x : Rp.R) (d : Nat) (a : Option Addr) (c : Nat) (w : World), (Rp.heads 0 x).length ≤ N → d ≤ 21 → RepW w x (rv x.k x.s x.n a x.l.length c) →
    Calls Tryd.prog 22 #[rv x.k x.s x.n a x.l.length c, .int .i64 (d : Int)] w fun e W => e = .returned (.int .i64 (Rp.manyR d x : Int)) ∧ Below w.heap.size w W := by
  intro N
  induction N with
  | zero =>
    intro x d a c w hN
    have := Rp.heads_ne 0 x
    omega
  | succ N ih =>
    intro x d a c w hN hd hx
    have hrec : ∀ j (h : j < x.l.length), (Rp.heads 0 x.l[j]).length ≤ N := fun j h => by have := Rp.heads_lt h; omega
    obtain ⟨k, s, n, l⟩ := x
    simp only [Rp.R.k, Rp.R.s, Rp.R.n, Rp.R.l] at hx hrec ⊢
    obtain ⟨hf, hxl⟩ := hx.at
    unfold rv
    obtain ⟨f1, f2, f3, f4, f5, f6, f7⟩ := hf
    have hbel : ∀ o, Below w.heap.size w (w.alloc o) := fun o => (Below.refl _ w).alloc (Nat.le_refl _) o
    have HBL := Lib.hid hbel
    have d0 : (0 : Int) ≤ (d : Int) := by omega
    have d21 : (d : Int) ≤ 21 := by omega
    have sI : (s.length : Int) ≤ 9223372036854775807 := by omega
    have lI : (l.length : Int) ≤ 9223372036854775807 := by omega
    rw [Rp.manyR_eq]
    by_cases hbig : 20 < d ∨ 100 < l.length ∨ 700 < s.length
    · rw [if_pos hbig]
      have hor : (20 : Int) < (d : Int) ∨ (¬ (20 : Int) < (d : Int) ∧ (100 : Int) < (l.length : Int)) ∨ (¬ (20 : Int) < (d : Int) ∧ ¬ (100 : Int) < (l.length : Int) ∧ (700 : Int) < (s.length : Int)) := by omega
      clear hx hxl hrec ih hbel hN hbig
      generalize l.length = m at *
      rcases hor with h | ⟨h, h'⟩ | ⟨h, h', h''⟩
      all_goals
        go_enter Tryd.func22, Tryd.ntmps22
        go_wp2
        go_ret
        exact ⟨rfl, HBL.out _⟩
    · rw [if_neg hbig]
      have e1 : ¬ (20 : Int) < (d : Int) := by omega
      have e2 : ¬ (100 : Int) < (l.length : Int) := by omega
      have e3 : ¬ (700 : Int) < (s.length : Int) := by omega
      have wd1 : IntKind.i64.wrap ((d : Int) + 1) = ((d + 1 : Nat) : Int) := by rw [IntWalk.i64_in _ (by omega)]; omega
      have hd2 : d + 1 ≤ 21 := by omega
      have HX := Lib.hid hxl
      have HR0 := Lib.hid hrec
      have IH := Lib.hid ih
      clear hx hxl hrec ih hbel hN hbig
      obtain ⟨w1, hw1⟩ : ∃ w1, w.alloc (.cells #[.int .i64 k, .string ⟨s.toArray⟩, .int .i64 n, .slice a l.length c] 24) = w1 := ⟨_, rfl⟩
      have hp1 := World.alloc_heap_new w (.cells #[.int .i64 k, .string ⟨s.toArray⟩, .int .i64 n, .slice a l.length c] 24)
      have hb1 := HBL.out (.cells #[.int .i64 k, .string ⟨s.toArray⟩, .int .i64 n, .slice a l.length c] 24)
      rw [hw1] at hp1 hb1
      have HW1 := Lib.hid hw1
      have HP1 := Lib.hid hp1
      have HB1 := Lib.hid hb1
      have hz1 : w.heap.size < w1.heap.size := (Array.getElem?_eq_some_iff.1 hp1).1
      obtain ⟨p0, p1, p2, p3⟩ := cells_four hp1
      clear hw1 hp1 hb1
      go_enter Tryd.func22, Tryd.ntmps22
      go_upto_region 1 with (fail)
      rw [show w.alloc (.cells #[.int .i64 k, .string ⟨s.toArray⟩, .int .i64 n, .slice a l.length c] 24) = w1 from HW1.out]
      clear HW1
      go_wp2_with fail
      clear p0 p1 p2 p3
      go_loopw [5, 6] (fun u i wr => ∃ q : Nat, q ≤ l.length ∧ i = .int .i64 (q : Int) ∧ u = .int .i64 (Rp.manyTo (d + 1) l q : Int) ∧ Rp.manyTo (d + 1) l q ≤ 22999 ∧ Hid (Below w1.heap.size w1 wr)) (fun _ i _ => l.length - (intOf i).toNat)
      case atStart => exact ⟨0, Nat.zero_le _, rfl, rfl, by rw [Rp.manyTo]; decide, Lib.hid (Below.refl _ _)⟩
      case round =>
        obtain ⟨q, hq, rfl, rfl, hM, HB⟩ := hrel
        have hpr := (HB.out.block _ hz1).trans HP1.out
        obtain ⟨p0, p1, p2, p3⟩ := cells_four hpr
        have hbr : Below w.heap.size w wr := HB1.out.trans (HB.out.mono HB1.out.size)
        have HBR := Lib.hid hbr
        have q0 : (0 : Int) ≤ (q : Int) := by omega
        have q1 : (q : Int) ≤ 100 := by omega
        have wq1 : IntKind.i64.wrap ((q : Int) + 1) = (q : Int) + 1 := IntWalk.i64_in _ (by omega)
        have hdrop := Rp.manyL_drop (d + 1) l q hq
        have hnext : Rp.manyTo (d + 1) l (q + 1) = if Rp.manyTo (d + 1) l q < 1000 then Rp.manyTo (d + 1) l q + ((l[q]?).map (Rp.manyR (d + 1))).getD 0 else Rp.manyTo (d + 1) l q := by rw [Rp.manyTo]
        obtain ⟨M, hMM⟩ : ∃ M, Rp.manyTo (d + 1) l q = M := ⟨_, rfl⟩
        rw [hMM] at hM hdrop hnext
        clear hpr
        by_cases hlt : q < l.length
        · have hltI : (q : Int) < (l.length : Int) := by omega
          by_cases h1000 : M < 1000
          · have hMI : (M : Int) < 1000 := by omega
            obtain ⟨bb, off, rfl, hbb, hce⟩ := HX.out.resolve_left (by intro h; rw [h] at hlt; simp at hlt)
            obtain ⟨aj, cj, c0, c1, c2, c3, hrep⟩ := hce q hlt
            replace c0 := (hbr.cell (p := ⟨bb, off + q * 4, none⟩) hbb).trans c0
            replace c1 := (hbr.cell (p := ⟨bb, off + q * 4 + 1, none⟩) hbb).trans c1
            replace c2 := (hbr.cell (p := ⟨bb, off + q * 4 + 2, none⟩) hbb).trans c2
            replace c3 := (hbr.cell (p := ⟨bb, off + q * 4 + 3, none⟩) hbb).trans c3
            have hcl := IH.out l[q] (d + 1) aj cj wr (HR0.out q hlt) hd2 (RepW.later hbr _ _ hrep)
            have hle := Rp.manyR_le l[q] (d + 1) hd2
            unfold rv at hcl
            have hget : ((l[q]?).map (Rp.manyR (d + 1))).getD 0 = Rp.manyR (d + 1) l[q] := by simp [hlt]
            rw [hget, if_pos h1000] at hnext
            obtain ⟨r, hr⟩ : ∃ r, l[q] = r := ⟨_, rfl⟩
            rw [hr] at c0 c1 c2 c3 hcl hle hnext
            obtain ⟨Y, hY⟩ : ∃ Y, Rp.manyR (d + 1) r = Y := ⟨_, rfl⟩
            rw [hY] at hcl hle hnext
            have hYI : (Y : Int) ≤ 22000 := by omega
            have wsum : IntKind.i64.wrap ((M : Int) + (Y : Int)) = (M : Int) + (Y : Int) := IntWalk.i64_in _ (by omega)
            have HC := Lib.hid hcl
            have HNX := Lib.hid hnext
            have HMM := Lib.hid hMM
            rw [hMM]
            clear hrep hcl hce hbb hbr hr hY hget hnext hdrop hMM
            go_wp2_with fail
            refine HC.out.mono ?_
            rintro e w2 ⟨rfl, hb2⟩
            have HB2 := Lib.hid (HB.out.trans (hb2.mono HB.out.size))
            clear hb2 c0 c1 c2 c3 p0 p1 p2 p3
            go_wp2_with fail
            go_roundw
            case rel => exact ⟨q + 1, by omega, by go_num, by rw [HNX.out]; go_num, by rw [HNX.out]; omega, HB2⟩
            case measure => simp [intOf]; omega
          · have hMI : ¬ (M : Int) < 1000 := by omega
            have HT : Hid (Rp.manyL (d + 1) 1 l = M) := Lib.hid (by rw [hdrop, Rp.manyL_stop _ _ _ (by omega)])
            rw [hMM]
            clear hdrop hnext hMM HX HR0 IH hbr
            go_wp2
            go_ret
            exact ⟨by rw [HT.out]; rfl, HBR.out⟩
        · obtain rfl : q = l.length := by omega
          have hnl : ¬ (l.length : Int) < (l.length : Int) := by omega
          have HT : Hid (Rp.manyL (d + 1) 1 l = M) := Lib.hid (by rw [hdrop, List.drop_length, Rp.manyL])
          rw [hMM]
          clear hdrop hnext hMM HX HR0 IH hbr
          go_wp2
          go_ret
          exact ⟨by rw [HT.out]; rfl, HBR.out⟩

set_option maxRecDepth 100000 in
set_option maxHeartbeats 4000000 in
theorem great_any (x : Rp.R) (a : Option Addr) (c : Nat) (w : World) (hx : RepW w x (rv x.k x.s x.n a x.l.length c)) :
    Calls Tryd.prog 9 #[rv x.k x.s x.n a x.l.length c, .int .i64 0] w fun e W => e = .returned (.bool (decide (400 < Rp.manyR 0 x))) ∧ Below w.heap.size w W := by
  obtain ⟨w1, hw1⟩ : ∃ w1, w.alloc (.cells #[.int .i64 x.k, .string ⟨x.s.toArray⟩, .int .i64 x.n, .slice a x.l.length c] 24) = w1 := ⟨_, rfl⟩
  have hp1 := World.alloc_heap_new w (.cells #[.int .i64 x.k, .string ⟨x.s.toArray⟩, .int .i64 x.n, .slice a x.l.length c] 24)
  have hb1 : Below w.heap.size w w1 := by rw [← hw1]; exact (Below.refl _ w).alloc (Nat.le_refl _) _
  rw [hw1] at hp1
  have hcl := many_any _ x 0 a c w1 (Nat.le_refl _) (by decide) (RepW.later hb1 _ _ hx)
  have hle := Rp.manyR_le x 0 (by decide)
  unfold rv at hcl ⊢
  rw [show (((0 : Nat) : Int)) = 0 from rfl] at hcl
  obtain ⟨M, hM⟩ : ∃ M, Rp.manyR 0 x = M := ⟨_, rfl⟩
  rw [hM] at hcl hle ⊢
  obtain ⟨p0, p1, p2, p3⟩ := cells_four hp1
  have HC := Lib.hid hcl
  have HB := Lib.hid hb1
  have HW := Lib.hid hw1
  clear hcl hb1 hw1 hp1 hx hM
  go_enter Tryd.func9, Tryd.ntmps9
  go_upto_region 1 with (fail)
  rw [show w.alloc (.cells #[.int .i64 x.k, .string ⟨x.s.toArray⟩, .int .i64 x.n, .slice a x.l.length c] 24) = w1 from HW.out]
  go_wp2_with fail
  refine HC.out.mono ?_
  rintro e w2 ⟨rfl, hb2⟩
  have HB2 := Lib.hid (HB.out.trans (hb2.mono HB.out.size))
  clear hb2
  have hD : decide (400 < M) = decide ((400 : Int) < (M : Int)) := by simp [show ((400 : Int) < (M : Int)) ↔ 400 < M by omega]
  have HD := Lib.hid hD
  clear hD
  go_wp2_with fail
  go_ret
  exact ⟨by rw [HD.out]; rfl, HB2.out⟩
end Go.Proofs.YtcjbfgkmpoebgaaDoor
