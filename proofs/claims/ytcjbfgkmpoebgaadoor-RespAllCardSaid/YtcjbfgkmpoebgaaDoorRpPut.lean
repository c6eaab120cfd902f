/- The contract of resp.Put. -/
import Derived.Test.YtcjbfgkmpoebgaaDoorRpMay
import Derived.Test.YtcjbfgkmpoebgaaDoorRpWith
namespace Go.Proofs.YtcjbfgkmpoebgaaDoor
open Go.RowKit Go.Shelf
attribute [local go_sem] Oper.semAt_some

namespace Rp
/-- the bytes of a walk's parts. -/
def encH (hs : List (H × Nat)) : List UInt8 := hs.flatMap fun p => own p.1
theorem encH_append (a b : List (H × Nat)) : encH (a ++ b) = encH a ++ encH b := by unfold encH; exact List.flatMap_append
mutual
theorem encH_heads (lev : Nat) : ∀ r : R, encH (heads lev r) = enc r
  | .mk k s n l => by
    unfold heads enc
    rw [← encH_headsL (lev + 1) l]
    rfl
theorem encH_headsL (lev : Nat) : ∀ l : List R, encH (headsL lev l) = encL l
  | [] => rfl
  | r :: l => by
    unfold headsL encL
    rw [encH_append, encH_heads lev r, encH_headsL lev l]
end

/-- may stand so, but for its elements. -/
def FQ (h : H) : Prop := fitsB h = true

theorem fits_size {h : H} (hf : FQ h) : h.s.length ≤ 1048576 ∧ 1 ≤ h.k ∧ h.k ≤ 6 := by
  unfold FQ fitsB at hf
  split at hf
  · simp at hf; omega
  split at hf
  · simp at hf
    rw [hf.1]; simp; omega
  split at hf
  · simp at hf; omega
  split at hf
  · simp at hf
    rw [hf.1.1]; simp; omega
  split at hf
  · simp at hf
    rw [hf.1.1]; simp; omega
  · cases hf
end Rp

theorem own_len {h : Rp.H} {cap : Nat} (hf : Fit h.k h.s h.n h.m cap) (hs : h.s.length ≤ 1048576) : (Rp.own h).length ≤ 1048620 := by
  obtain ⟨f1, f2, f3, f4, f5, f6, f7⟩ := hf
  unfold Rp.own
  have h1 := dec_len20 f3 f4
  have h2 := dec_len20 (n := h.s.length) (by omega) (by omega)
  have h3 := dec_len20 (n := h.m) (by omega) (by omega)
  have h4 := dec_len20 (n := -1) (by omega) (by omega)
  rw [List.length_append]
  have h5 : Rp.crlf.length = 2 := rfl
  repeat' split
  all_goals simp only [List.length_cons, List.length_append, List.length_nil]
  all_goals omega

theorem Buf.form {base : Nat} {bs : List UInt8} {v : Value} {W : World} (h : Buf base bs v W) : ∃ a m c, v = .slice a m c := by
  rcases h.2 with ⟨rfl, _⟩ | ⟨g, cap, cur, rfl, _⟩
  · exact ⟨_, _, _, rfl⟩
  · exact ⟨_, _, _, rfl⟩

theorem may_allF {r : Rp.R} (h : Rp.mayB r = true) : AllQ Rp.FQ (Rp.heads 0 r) := by
  intro p hp
  have := List.all_eq_true.1 h p hp
  unfold Rp.okB at this
  simp only [Bool.and_eq_true] at this
  exact this.1

/-- the row that is being filled, between two rounds. -/
def PInv (w : World) (Bb base : Nat) (O : Nat → Prop) (pre : List (PV Rp.FQ)) (W : World) : Prop :=
  (∃ v, Boxed W Bb 28 v ∧ Buf base (Rp.encH (pre.map PV.hl)) v W ∧ ∀ g, v.ownBlock = some g → O g) ∧ (Rp.encH (pre.map PV.hl)).length ≤ 1048620 * pre.length ∧ Below w.heap.size w W

theorem put_end {w A W2 : World} {Bb b : Nat} {O : Nat → Prop} {pre : List (PV Rp.FQ)} {x : PV Rp.FQ} {v v' : Value} {aa : Act} (hb : Boxed A Bb 28 v) (hBb : w.heap.size ≤ Bb ∧ Bb < b) (hlen : (Rp.encH (pre.map PV.hl)).length ≤ 1048620 * pre.length) (hB : Below w.heap.size w A)
    (h1 : Buf (b + 2) (Rp.encH (pre.map PV.hl) ++ Rp.own x.h) v' W2) (h2 : Below (b + 2) A W2) (h3 : Lib.OthersKept 5 none A W2) :
    ownPostN (b + 2) (fun k => k < w.heap.size) (OwnS (fun _ => False) b O) O (PInv w Bb (b + 2)) (fun _ _ _ _ => False) (pre ++ [x]) A .normal aa (W2.setCell ⟨Bb, 0, none⟩ v') := by
  have hbx : Boxed W2 Bb 28 v := (h2.block Bb (by omega)).trans hb
  have e1 : Rp.encH ((pre ++ [x]).map PV.hl) = Rp.encH (pre.map PV.hl) ++ Rp.own x.h := by rw [List.map_append, Rp.encH_append]; simp [Rp.encH, PV.hl]
  have hk : KeepsN (fun k => k < w.heap.size) (OwnS (fun _ => False) b O) A W2 := ⟨h2.os, h2.tape, h2.output, h2.size, fun k hk hs => by
    rcases hs with hs | ⟨hs, hn⟩
    · exact h2.block k (by omega)
    · have he : A.heap[k]? = some (A.heap[k]'hk) := Array.getElem?_eq_getElem hk
      rw [he]
      exact h3 k _ he (by simp) fun c fz e => hn c fz (by rw [he, e])⟩
  refine ⟨hk.setCell (.inr ?_) _, fun k => v'.ownBlock = some k, ?_, ⟨v', hbx.set _, ?_, fun g hg => hg⟩, ?_, ?_⟩
  · rintro (h | h | h)
    · have h : Bb < w.heap.size := h
      omega
    · exact h
    · have h : b ≤ Bb := h.1
      omega
  · intro k hk'
    have hg := h1.lt k hk'
    refine ⟨by simp; exact hg.2, ?_⟩
    by_cases hs : A.heap.size ≤ k
    · exact .inr (.inl hs)
    · refine .inr (.inr ⟨hg.1, fun hn => ?_⟩)
      obtain ⟨c, fz, hc⟩ := Lib.ownsRow_kind h1 k hk'
      have hlt : k < A.heap.size := by omega
      have he : A.heap[k]? = some (A.heap[k]'hlt) := Array.getElem?_eq_getElem hlt
      have := h3 k _ he (by simp) fun c fz e => hn c fz (by rw [he, e])
      rw [hc] at this
      exact hn c fz (by rw [he, ← this])
  · rw [e1]
    exact ownsRow_setCell_below h1 (by simp; omega) _
  · rw [e1, List.length_append, List.length_append, List.length_singleton]
    have := own_len x.fit (Rp.fits_size x.q).1
    omega
  · exact (hB.trans (h2.mono (by omega))).setCell (p := ⟨Bb, 0, none⟩) hBb.1 _

set_option maxRecDepth 100000 in
set_option maxHeartbeats 4000000 in
theorem put_any (r : Rp.R) (a : Option Addr) (cap : Nat) (w : World) (hsz : (Rp.heads 0 r).length ≤ 1000000) (hcas : AllQ CAQ (Rp.heads 0 r)) (henv : Env w) (hrep : Rep (fun k => k < w.heap.size) w r (rv r.k r.s r.n a r.l.length cap)) :
    CallsIn Fence.wide 0 Tryd.prog 13 #[rv r.k r.s r.n a r.l.length cap] w fun e W' => ∃ v, e = .returned v ∧ Buf w.heap.size (Rp.putB r) v W' ∧ Below w.heap.size w W' := by
  obtain ⟨w1, hw1⟩ : ∃ w1, w.alloc (.cells #[.int .i64 r.k, .string ⟨r.s.toArray⟩, .int .i64 r.n, .slice a r.l.length cap] 24) = w1 := ⟨_, rfl⟩
  have hs1 : w1.heap.size = w.heap.size + 1 := by rw [← hw1]; simp
  have hB1 : Below w.heap.size w w1 := by rw [← hw1]; exact (Below.refl _ w).alloc (Nat.le_refl _) _
  have hbox1 : w1.heap[w.heap.size]? = some (.cells #[.int .i64 r.k, .string ⟨r.s.toArray⟩, .int .i64 r.n, .slice a r.l.length cap] 24 (0, 0)) := by rw [← hw1]; exact World.alloc_heap_new w _
  have hm := may_any r a cap w1 hsz hcas (Rep.keeps (Keeps.of_below hB1 fun _ h _ => h) (fun k h _ => by omega) r _ hrep)
  have HREP := Lib.hid hrep
  have HB1 := Lib.hid hB1
  have HS1 := Lib.hid hs1
  have HBX := Lib.hid hbox1
  have HENV := Lib.hid henv
  clear hrep hB1 hs1 hbox1 hcas henv
  subst hw1
  unfold rv at hm ⊢
  refine callsIn_of_wp_marks Tryd.func13 rfl trivial ?_ rfl
  simp only [Tryd.ntmps13, List.size_toArray, List.length_cons, List.length_nil, Nat.reduceAdd, Nat.reduceSub, Array.replicate_succ, Array.replicate_zero, List.push_toArray, List.append_toArray, List.nil_append, List.cons_append]
  cases hmay : Rp.mayB r with
  | false =>
    rw [hmay] at hm
    have HP : Hid (Rp.putB r = []) := Lib.hid (by unfold Rp.putB; rw [hmay]; rfl)
    gi_wp2_with (refine ⟨trivial, rfl, ?_⟩; refine hm.mono ?_; rintro e w2 ⟨rfl, hb2⟩; have H2 := Lib.hid hb2; clear hb2 hm)
    refine ⟨_, results_tmp rfl _ _ _, _, rfl, ?_, ?_⟩
    · rw [HP.out]
      exact World.ownsRow_nil _ _ _ _
    · exact HB1.out.trans (H2.out.mono HB1.out.size)
  | true =>
    rw [hmay] at hm
    have HP : Hid (Rp.putB r = Rp.enc r) := Lib.hid (by unfold Rp.putB; rw [hmay]; rfl)
    have HQ := Lib.hid (may_allF hmay)
    have hbx2 : ∀ w2, Below (w.alloc (.cells #[.int .i64 r.k, .string ⟨r.s.toArray⟩, .int .i64 r.n, .slice a r.l.length cap] 24)).heap.size (w.alloc (.cells #[.int .i64 r.k, .string ⟨r.s.toArray⟩, .int .i64 r.n, .slice a r.l.length cap] 24)) w2 →
        w2.heap[w.heap.size]? = some (.cells #[.int .i64 r.k, .string ⟨r.s.toArray⟩, .int .i64 r.n, .slice a r.l.length cap] 24 (0, 0)) := fun w2 h => (h.block _ (by simp)).trans HBX.out
    have HBX2 := Lib.hid hbx2
    clear hbx2
    gi_wp2_with (refine ⟨trivial, rfl, ?_⟩; refine hm.mono ?_; rintro e w2 ⟨rfl, hb2⟩; have hbx := HBX2.out w2 hb2; obtain ⟨y0, y1, y2, y3⟩ := cells_four (((Keeps.refl (fun _ => True) w2).alloc (.cells #[.slice none 0 0] 28)).heap hbx trivial); clear hbx; have H2 := Lib.hid hb2; clear hb2 hm)
    have hs2 : w.heap.size + 1 ≤ w2.heap.size := by have := H2.out.size; rw [HS1.out] at this; exact this
    have hp := parts_any r.k r.s r.n a r.l.length cap (w2.alloc (.cells #[.slice none 0 0] 28))
    rw [World.size_alloc] at hp
    unfold rv at hp
    gi_wp2_with (refine ⟨trivial, rfl, ?_⟩; refine hp.mono ?_; rintro e w3 ⟨rfl, hw3⟩; have HW3 := Lib.hid hw3; clear hw3 hp)
    have hw3 := HW3.out
    clear HW3
    have hB3 : Below w.heap.size w w3 := by rw [hw3]; exact ((HB1.out.trans (H2.out.mono HB1.out.size)).alloc (by omega) _).alloc (by simp; omega) _
    have hbb : Boxed w3 w2.heap.size 28 (.slice none 0 0) := by rw [hw3]; exact (Boxed.new w2 28 _).alloc _
    have hbox : w3.heap[w2.heap.size + 1]? = some (.cells #[.int .i64 r.k, .string ⟨r.s.toArray⟩, .int .i64 r.n, .slice a r.l.length cap] 24 (0, 0)) := by
      rw [hw3]
      have := World.alloc_heap_new (w2.alloc (.cells #[.slice none 0 0] 28)) (.cells #[.int .i64 r.k, .string ⟨r.s.toArray⟩, .int .i64 r.n, .slice a r.l.length cap] 24)
      rwa [World.size_alloc] at this
    have hs3 : w3.heap.size = w2.heap.size + 2 := by rw [hw3]; simp
    clear hw3 y0 y1 y2 y3 HB1 HS1 HBX H2
    have hseq := parts_seq (Q := Rp.FQ) false (w2.heap.size + 1) r a cap w3 HQ.out hsz (by omega) hbox (fun k => k < w.heap.size) (Rep.keeps (Keeps.of_below hB3 fun _ h _ => h) (fun _ h _ => h) r _ HREP.out)
    clear hbox
    have h8 := HENV.out.size
    refine wpIn_rangeN (gf := 33) (lb := #[.pointer (some ⟨w2.heap.size + 1, 0, none⟩)]) rfl (enters_of Tryd.func33 (by kernel_rfl) rfl)
      hseq (Below.refl _ _) (fun k h => by omega) (fun k h => h.elim) (fun _ => rfl)
      (PInv w w2.heap.size (w3.heap.size + 2)) (fun _ _ _ _ => False)
      ?hI (fun _ _ _ _ _ h _ => h) (fun _ _ _ _ _ h => h) ⟨⟨_, hbb, World.ownsRow_nil _ _ _ _, by simp [Value.ownBlock]⟩, by simp [Rp.encH], hB3⟩
      (VVar (Q := Rp.FQ) (w3.heap.size + 2) (fun Bx x => { tmps := #[.agg #[.int .i64 r.k, .string ⟨r.s.toArray⟩, .int .i64 r.n, .slice a r.l.length cap], .pointer (some ⟨w.heap.size, 0, none⟩), .slice none 0 0, .pointer (some ⟨w2.heap.size, 0, none⟩), .pointer (some ⟨Bx, 0, none⟩), .agg #[.int .i64 r.k, .string ⟨r.s.toArray⟩, .int .i64 r.n, .slice a r.l.length cap], .bool true, .bool false, .agg #[.int .i64 r.k, .string ⟨r.s.toArray⟩, .int .i64 r.n, .slice a r.l.length cap], .func (.func 33) #[] #[.pointer (some ⟨w2.heap.size + 1, 0, none⟩)], rv x.h.k x.h.s x.h.n x.a x.h.m x.cap, .int .i64 x.lev, undef, undef, undef, undef], defers := [] }))
      (fun O x a' A C h hk => h.later (by omega) hk) ?assign ?body ?done ?stop
    case hI =>
      rintro O s A C ⟨⟨v, h1, h2, h3⟩, h4, h5⟩ hk
      have own : ∀ k, k < w3.heap.size → IterS (fun _ => False) w3.heap.size O k := fun k h => ⟨id, .inl h⟩
      exact ⟨⟨v, hk.heap h1 (own _ (by omega)), owns_kept h2 hk (fun g hg => ⟨id, .inr (h3 g hg)⟩), h3⟩, h4, h5.trans (hk.below h5.size fun k hk' => own k (by omega))⟩
    case assign =>
      intro O pre x A K hO hA ⟨⟨v, h1, h2, h3⟩, h4, h5⟩ hK
      have HK := Lib.hid hK
      clear hK
      unfold encV rv
      gi_wp2
      exact HK.out _ _ (KeepsN.refl _ _ _ |>.alloc _) ⟨⟨v, h1.alloc _, h2.alloc _, h3⟩, h4, h5.alloc h5.size _⟩ ⟨A.heap.size, by omega, fun h => by have := (hO _ h).2; omega, World.alloc_heap_new A _, rfl⟩
    case body =>
      rintro O pre x a' A hO hA ⟨r', hr⟩ ⟨⟨v, hv, hbuf, hown⟩, hlen, hB⟩ ⟨Bx, hBx, hnO, hcx, rfl⟩ hpl
      have b1 := hv.cell
      have b2 := hv.frozen
      obtain ⟨x0, x1, x2, x3⟩ := cells_four hcx
      have hsz2 : (Rp.encH (pre.map PV.hl)).length ≤ 2000000000000 := by omega
      have hwo := in_round (l := w3.heap.size + 1) (withOwn_any (w3.heap.size + 2) _ v x.h x.a x.cap A hbuf hA (by omega) hsz2 x.fit (Rp.fits_size x.q).1 (Rp.fits_size x.q).2 (HENV.out.below hB h8))
      have hfin : ∀ W2 v', Buf (w3.heap.size + 2) (Rp.encH (pre.map PV.hl) ++ Rp.own x.h) v' W2 → Below (w3.heap.size + 2) A W2 → Lib.OthersKept 5 none A W2 → ∀ aa, ownPostN (w3.heap.size + 2) (fun k => k < w.heap.size) (OwnS (fun _ => False) w3.heap.size O) O (PInv w w2.heap.size (w3.heap.size + 2)) (fun _ _ _ _ => False) (pre ++ [x]) A .normal aa (W2.setCell ⟨w2.heap.size, 0, none⟩ v') := fun W2 v' h1 h2 h3 aa => put_end hv ⟨by omega, by omega⟩ hlen hB h1 h2 h3
      have hcl : ∀ W2, Below (w3.heap.size + 2) A W2 → W2.cell? ⟨w2.heap.size, 0, none⟩ = some v ∧ W2.frozen? ⟨w2.heap.size, 0, none⟩ = false := fun W2 h => by
        have := (h.block w2.heap.size (by omega)).trans hv
        exact ⟨Boxed.cell this, Boxed.frozen this⟩
      have HFIN := Lib.hid hfin
      have HCL := Lib.hid hcl
      unfold rv at hwo ⊢
      clear hcx hr hv hbuf hown hlen hB hO hfin hcl hs3
      gi_wp2_with (refine ⟨trivial, rfl, ?_⟩; refine hwo.mono ?_; rintro e W2 ⟨v', rfl, h1, h2, h3⟩; obtain ⟨a9, m9, c9, rfl⟩ := h1.form; obtain ⟨z1, z2⟩ := HCL.out W2 h2; have H1 := Lib.hid (HFIN.out W2 _ h1 h2 h3); clear h1 h2 h3 hwo HFIN)
      exact H1.out _
    case done =>
      rintro O D xs A hD hDs hO - hSx ⟨⟨v, hv, hbuf, hown⟩, hlen, hB⟩ hDd
      have b1 := hv.cell
      have HH : Hid (Rp.encH (xs.map PV.hl) = Rp.enc r) := Lib.hid (by rw [hSx, Rp.encH_heads])
      clear hSx
      gi_wp2
      have hk : Keeps (fun k => k ≠ D) A (A.putObj D (.deferred none)) := (Keeps.refl _ A).putObj (fun h => h rfl) _
      refine ⟨by simp, .inl ⟨_, _, rfl, run_takeDeferred hDd, ?_⟩⟩
      refine ⟨_, results_tmp rfl _ _ _, v, rfl, ?_, hB.trans (hk.below hB.size fun k hk' => by omega)⟩
      rw [HP.out, ← HH.out]
      refine owns_base (owns_kept hbuf hk fun g hg => ?_) (by omega)
      have := (hO g (hown g hg)).1
      omega
    case stop =>
      rintro O D c pre A _ _ _ _ _ h _
      exact h.elim
end Go.Proofs.YtcjbfgkmpoebgaaDoor
