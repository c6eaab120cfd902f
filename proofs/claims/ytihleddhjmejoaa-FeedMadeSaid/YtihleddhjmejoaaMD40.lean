/- DERIVED: THE SHELF's CONTRACTS AT THIS DUMP, IN PLAIN WORDS (tools/lay-plain.mjs out of 'TryShelfG.lean', which tools/lay-shelf.mjs wrote): THE SAME DECLARATIONS UNDER THE SAME NAMES: 'import', 'namespace', 'open', 'def', 'theorem' AND NOTHING ELSE: no command of the shelf's: FOR A HAND-IN. Each laying: the table of numbers ('.._ren') and one theorem, a field a fact of the dump's own or the kernel's comparison; each contract: ONE APPLICATION. The contracts of slices.Grow and slices.Concat at effects (two of them). The contract of the program's Add (15.1). -/
import Derived.Shelf.SlGeneric
import Derived.Shelf.Spec.SlicesGrow
import Derived.Ground.Names8Prog
import Derived.Test.YtihleddhjmejoaaProg
import Derived.Test.YtihleddhjmejoaaMD09
import Derived.Test.YtihleddhjmejoaaMD24
import Derived.Test.YtihleddhjmejoaaMD35
import Derived.Test.YtihleddhjmejoaaMD39
namespace Go.Proofs
open Go.Shelf
def Try.it_grow_ren : Go.Shelf.Ren := ⟨fun | 4 => 53 | n => n, fun | 22 => 24 | 25 => 61 | 3 => 3 | 4 => 4 | 9 => 9 | 20 => 20 | 0 => 0 | n => n, fun | n => n⟩
theorem Try.it_grow : Go.Proofs.Lays8.n4 Try.prog Try.it_grow_ren := {
  mixed := by kernel_rfl
  f4 := ⟨Try.f53.name, by decide, Try.func53.trans (congrArg some (by kernel_rfl))⟩
  t0 := Try.underlying0
  a0 := Try.isAgg0
  z0 := Try.sizeOf0
  v0 := Try.zeroValue0
  t3 := Try.underlying3
  a3 := Try.isAgg3
  z3 := Try.sizeOf3
  v3 := Try.zeroValue3
  t4 := Try.underlying4
  a4 := Try.isAgg4
  z4 := Try.sizeOf4
  v4 := Try.zeroValue4
  t9 := Try.underlying9
  a9 := Try.isAgg9
  z9 := Try.sizeOf9
  v9 := Try.zeroValue9
  t20 := Try.underlying20
  a20 := Try.isAgg20
  z20 := Try.sizeOf20
  v20 := Try.zeroValue20
  t22 := Try.underlying24
  a22 := Try.isAgg24
  z22 := Try.sizeOf24
  v22 := Try.zeroValue24 }
end Go.Proofs
namespace Go.Proofs.Ytihleddhjmejoaa
open Go.RowKit Go.Shelf
attribute [local go_sem] Oper.semAt_some
set_option linter.unusedVariables false
set_option linter.unusedSimpArgs false

theorem le_seven (ps : List Le) : ∀ c ∈ ps.map Le.cs, c.length = 7 := fun c hc => by obtain ⟨p, -, rfl⟩ := List.mem_map.1 hc; rfl
theorem efs_news {w : World} {ad : Addr} {cap : Nat} {ps : List Le} (h : Efs w (some ad) cap ps) : ∀ j u, ((ps.map Le.cs).flatten)[j]? = some u → w.cell? (ad.add j) = some u := by
  intro j u hj
  by_cases h0 : ps.length = 0
  · rw [List.length_eq_zero_iff.1 h0] at hj; simp at hj
  · obtain ⟨b, off, he, hlt, hc⟩ := h.1.get (by simpa using Nat.pos_of_ne_zero h0)
    cases he
    have hlen := flat_len (le_seven ps)
    rw [List.length_map] at hlen
    have hj2 : j < ps.length * 7 := by
      have := (List.getElem?_eq_some_iff.1 hj).1
      omega
    have e : j / 7 * 7 + j % 7 = j := by omega
    have h1 := hc (j / 7) (by rw [List.length_map]; omega) (j % 7) (by omega)
    have h2 := flat_at (le_seven ps) (j / 7) (by rw [List.length_map]; omega) (j % 7) (by omega)
    rw [e] at h2
    rw [Addr.add_flat, ← hj, h2, ← h1, Nat.add_assoc, e]
theorem RowE.many {w W w1 : World} {v' : Value} {es ls : List Le} {v : Value} (h : RowE w v es W) (h1 : w1.ownsRow w.heap.size 61 7 v' (es.length + ls.length) ((es.map Le.cs).flatten ++ (ls.map Le.cs).flatten)) (hg : W.grownBy w1 v.ownBlock) (hp : ∀ p ∈ ls, p.Ok w) : RowE w v' (es ++ ls) w1 := by
  refine ⟨by simpa using h1, h.2.1.trans ((Keeps.of_grown (S := fun k => some k ≠ v.ownBlock) hg fun r e h => h e.symm).below h.2.1.size fun k hk e => by have := (h.1.lt k e.symm).1; omega), fun p hp' => ?_⟩
  rcases List.mem_append.1 hp' with hp' | hp'
  · exact h.2.2 p hp'
  · exact hp p hp'
theorem flatE_one (ps : List Le) : ∀ u ∈ (ps.map Le.cs).flatten, u.oneCell' = true := fun u hu => by
  obtain ⟨c, hc, hu⟩ := List.mem_flatten.1 hu
  obtain ⟨p, -, rfl⟩ := List.mem_map.1 hc
  exact Le.cs_one p u hu
theorem flatE_len (ps : List Le) : (ps.map Le.cs).flatten.length = ps.length * 7 := by rw [flat_len (le_seven ps), List.length_map]

theorem grow_any (n : Nat) (w : World) (hn : n ≤ 100000) :
    Calls Try.prog 53 #[.slice none 0 0, .int .i64 (n : Int)] w fun e W => ∃ v, e = .returned v ∧ RowE w v [] W := by
  obtain ⟨iE, hiE, hiE0, hiE1, hiE2⟩ := info_parts infoE
  by_cases h0 : n = 0
  · subst h0
    refine (Any8.slices_Grow_room Try.it_grow none 0 0 0 w (by decide) (by decide) (by decide) (by decide)).mono ?_
    rintro e W ⟨rfl, rfl⟩
    exact ⟨_, rfl, RowE.none (Below.refl _ _)⟩
  · refine (Any8.slices_Grow_grow Try.it_grow iE _ hiE hiE0 (by rw [hiE1]; decide) none 0 0 n [] w (by decide) (by omega) (by rw [hiE2]; omega) (by omega) (by simp) (fun _ => rfl) (fun a h => (by cases h))).mono ?_
    rintro e W ⟨rfl, rfl⟩
    have hge := grownCap_ge w (0 + n) 0 (Try.it_grow_ren.t 25)
    have hle := grownCap_le_maxLen w (0 + n) 0 (Try.it_grow_ren.t 25) (by unfold maxLen; omega)
    refine ⟨_, rfl, ⟨rfl, .inr ⟨w.heap.size, _, _, rfl, Nat.le_refl _, World.alloc_heap_new w.drew _, Nat.zero_le _, hle, ?_, by simp⟩⟩, (Below.refl _ w).drew.alloc (Nat.le_refl _) _, by simp⟩
    generalize grownCap w (0 + n) 0 (Try.it_grow_ren.t 25) = C at *
    simp only [Array.size_append, size_zeroCells, Value.cells]
    simp
    omega

/-- the first of two. -/
def catP (es ls : List Le) (n : Nat) : List Le := if n = 0 then [] else if n = 1 then es else es ++ ls

set_option maxRecDepth 100000 in
set_option maxHeartbeats 4000000 in
theorem concat_any (g : Nat) (a : Option Addr) (c : Nat) (es : List Le) (b : Option Addr) (d : Nat) (ls : List Le) (w : World) (h0 : w.cell? ⟨g, 0, none⟩ = some (.slice a es.length c)) (h1 : w.cell? ⟨g, 1, none⟩ = some (.slice b ls.length d))
    (hE : Efs w a c es) (ha : a = none → c = 0) (hL : Efs w b d ls) (hb : b = none → d = 0) (hn : es.length ≤ 10000) (hm : ls.length ≤ 10000) :
    Calls Try.prog 34 #[.slice (some ⟨g, 0, none⟩) 2 2] w fun e W => ∃ v, e = .returned v ∧ RowE w v (es ++ ls) W := by
  obtain ⟨iE, hiE, hiE0, hiE1, hiE2⟩ := info_parts infoE
  have hgl : g < w.heap.size := World.block_lt_of_cell? w _ h0
  have HS : Hid (∀ n, n < 2 → ∃ ax xs cx, w.cell? ⟨g, n, none⟩ = some (.slice ax xs.length cx) ∧ Efs w ax cx xs ∧ (ax = none → cx = 0) ∧ catP es ls (n + 1) = catP es ls n ++ xs ∧ xs.length ≤ 10000) := Lib.hid fun n hn2 => by
    have : n = 0 ∨ n = 1 := by omega
    rcases this with rfl | rfl
    · exact ⟨a, es, c, h0, hE, ha, by simp [catP], hn⟩
    · exact ⟨b, ls, d, h1, hL, hb, by simp [catP], hm⟩
  have HC2 : Hid (catP es ls 2 = es ++ ls) := Lib.hid (by simp [catP])
  have HC0 : Hid (catP es ls 0 = []) := Lib.hid (by simp [catP])
  have HCL : Hid (∀ n, n ≤ 2 → (catP es ls n).length ≤ 20000) := Lib.hid fun n hn2 => by
    have : n = 0 ∨ n = 1 ∨ n = 2 := by omega
    rcases this with rfl | rfl | rfl <;> simp [catP] <;> omega
  have HG := Lib.hid (fun n W (h : n ≤ 100000) => grow_any n W h)
  clear h0 h1 hE ha hL hb hn hm
  generalize catP es ls = P at *
  go_enter Try.func34, Try.ntmps34
  go_wp2_with fail
  go_loopw [3, 5, 11] (fun s _ i wr => ∃ n q : Nat, n ≤ 2 ∧ i = .int .i64 n ∧ s = .int .i64 q ∧ q = (P n).length ∧ w = wr) (fun _ _ i _ => 2 - (intOf i).toNat)
  case atStart => exact ⟨0, 0, by omega, rfl, rfl, by rw [HC0.out]; rfl, rfl⟩
  case round =>
    obtain ⟨n, q, hn2, rfl, rfl, hq, rfl⟩ := hrel
    by_cases hlt : n < 2
    · obtain ⟨ax, xs, cx, hcell, hX, hax, hP, hxl⟩ := HS.out n hlt
      have hql : q ≤ 20000 := by rw [hq]; exact HCL.out n hn2
      have HQ : Hid ((P (n + 1)).length = q + xs.length) := Lib.hid (by rw [hP, List.length_append, hq])
      have k0 : (0 : Int) ≤ (n : Int) := by omega
      have k1 : (n : Int) < 2 := by omega
      clear hX hax hP hq
      obtain ⟨X, hXl⟩ : ∃ X, xs.length = X := ⟨_, rfl⟩
      rw [hXl] at hcell hxl HQ
      clear hXl
      have kq : ¬ ((q : Int) + (X : Int) < 0) := by omega
      have wq : IntKind.i64.wrap ((q : Int) + (X : Int)) = (q : Int) + (X : Int) := IntWalk.i64_in _ (by omega)
      go_wp2_with fail
      go_roundw
      case rel => exact ⟨n + 1, q + X, by omega, by go_num, by go_num, HQ.out.symm, trivial⟩
      case measure => simp [intOf]; omega
    · obtain rfl : n = 2 := by omega
      have HQ : Hid (q ≤ 100000) := Lib.hid (by rw [hq, HC2.out]; have := HCL.out 2 (by omega); rw [HC2.out] at this; omega)
      clear hq
      have k1 : ¬ ((2 : Nat) : Int) < 2 := by omega
      go_wp2_with fail
      refine (HG.out q _ HQ.out).mono ?_
      rintro e w2 ⟨v2, rfl, hr2⟩
      have HR2 := Lib.hid hr2
      clear hr2
      go_wp2_with fail
      go_loopw [6, 8, 27] (fun u _ i wr => ∃ n : Nat, n ≤ 2 ∧ i = .int .i64 n ∧ Hid (RowE w u (P n) wr)) (fun _ _ i _ => 2 - (intOf i).toNat)
      case atStart => exact ⟨0, by omega, rfl, Lib.hid (by rw [HC0.out]; exact HR2.out)⟩
      case round =>
        obtain ⟨n, hn3, rfl, HR⟩ := hrel
        by_cases hlt2 : n < 2
        · obtain ⟨ax, xs, cx, hcell, hX, hax, hP, hxl⟩ := HS.out n hlt2
          have hc2 := (HR.out.2.1.cell (p := ⟨g, n, none⟩) hgl).trans hcell
          have hql : (P n).length ≤ 20000 := HCL.out n hn3
          have k0 : (0 : Int) ≤ (n : Int) := by omega
          have k1 : (n : Int) < 2 := by omega
          have hxn := hX.len
          have HX := Lib.hid (hX.later HR.out.2.1)
          have HXO := Lib.hid hX.2
          have HP := Lib.hid hP
          have hzr := HR.out.2.1.size
          clear hcell hX hP
          cases ax with
          | none =>
            obtain rfl : cx = 0 := hax rfl
            obtain rfl : xs = [] := List.eq_nil_of_length_eq_zero (by omega)
            clear hxn hxl HX HXO
            go_wp2_with (at_builtin; refine wpList_append_own_none rfl (.tmp 31) (.tmp 32) 24 rfl w.heap.size 61 iE 7 Try.underlying24 hiE _ _ _ rfl HR.out.1 rfl ?_)
            go_roundw
            case rel => exact ⟨n + 1, by omega, by go_num, Lib.hid (by rw [HP.out, List.append_nil]; exact HR.out)⟩
            case measure => simp [intOf]; omega
          | some ad =>
            have HN := Lib.hid (efs_news HX.out)
            clear hxn
            go_wp2_with (at_builtin; refine wpList_append_own _ rfl (.tmp 31) (.tmp 32) 24 rfl w.heap.size 61 iE _ 7 104 Try.underlying24 hiE hiE0 hiE1 hiE2 rfl (by decide) _ _ _ rfl HR.out.1 ad xs.length cx (xs.map Le.cs).flatten rfl (flatE_len xs) HN.out (flatE_one xs) (by unfold maxLen; omega) (by omega) (by omega) ?_; intro v1 w3 hown hgrow hnn; have HR3 := Lib.hid (RowE.many HR.out hown hgrow HXO.out); clear hown hgrow hnn)
            go_roundw
            case rel => exact ⟨n + 1, by omega, by go_num, Lib.hid (by rw [HP.out]; exact HR3.out)⟩
            case measure => simp [intOf]; omega
        · obtain rfl : n = 2 := by omega
          have k1 : ¬ ((2 : Nat) : Int) < 2 := by omega
          go_wp2
          go_ret
          exact ⟨_, rfl, by rw [← HC2.out]; exact HR.out⟩
end Go.Proofs.Ytihleddhjmejoaa
namespace Go.Proofs.Ytihleddhjmejoaa
open Go.RowKit Go.Shelf
attribute [local go_sem] Oper.semAt_some
set_option linter.unusedVariables false
set_option linter.unusedSimpArgs false

theorem FeBox.set2 {w : World} {B : Nat} {f : Fe} (h : FeBox w B f) (x : Int) : FeBox (w.setCell ⟨B, 2, none⟩ (.int .i64 x)) B { f with off := x } := by
  unfold FeBox at h ⊢
  simp [World.setCell, Array.getElem?_modify, h]
theorem FeBox.set3 {w : World} {B : Nat} {f : Fe} (h : FeBox w B f) (a : Option Addr) (es : List Le) (c : Nat) : FeBox (w.setCell ⟨B, 3, none⟩ (.slice a es.length c)) B { f with a := a, es := es, c := c } := by
  unfold FeBox at h ⊢
  simp [World.setCell, Array.getElem?_modify, h]
theorem FeBox.setT {w : World} {B : Nat} {f : Fe} (h : FeBox w B f) (j : Nat) (v : Value) : KeepsT w (w.setCell ⟨B, j, none⟩ v) := (Keeps.refl _ w).setCell (.inr h.noTx) v
theorem FeBox.setFar {w : World} {B g : Nat} {f : Fe} (h : FeBox w B f) (hg : B ≠ g) (j : Nat) (v : Value) : FeBox (w.setCell ⟨g, j, none⟩ v) B f := (Below.heap_setCell _ _ _ _ hg).trans h
theorem loadFe {W : World} {B : Nat} {f : Fe} (h : FeBox W B f) : (loadVar 26 ⟨B, 0, none⟩).run Try.prog W = .ok f.v W := by
  obtain ⟨⟨h0, h1, h2, h3, h4, h5, h6⟩, -⟩ := h.at
  simp [loadVar, go_sem, h0, h1, h2, h3, h4, h5, h6, Fe.v]
theorem Fe.zero_new (w : World) : FeBox (w.alloc (.cells #[.int .i64 0, .int .i64 0, .int .i64 0, .slice none 0 0, .int .i64 0, .int .i64 0, .int .i64 0] 26)) w.heap.size Fe.zero := World.alloc_heap_new w _

/-- its effects lie in memory made since. -/
def Fe.New (n : Nat) (g : Fe) : Prop := (∀ b o, g.a = some ⟨b, o, none⟩ → n ≤ b) ∧ ∀ e ∈ g.es, ∀ k, k < n → e.it.Far (some k)
def FeNew (f : Fd.F) (w : World) (e : Ending) (W : World) : Prop := ∃ g : Fe, e = .returned g.v ∧ g.Ok W ∧ g.f = f ∧ Below w.heap.size w W ∧ g.New w.heap.size
theorem FeNew.out {f : Fd.F} {w W : World} {e : Ending} (h : FeNew f w e W) : FeOut f w e W := by
  obtain ⟨g, h1, h2, h3, h4, -⟩ := h
  exact ⟨g, h1, h2, h3, h4⟩

set_option maxRecDepth 100000 in
set_option maxHeartbeats 4000000 in
theorem add_new (f : Fe) (b : Option Addr) (cb : Nat) (ls : List Le) (w : World) (hok : f.Ok w) (hL : Efs w b cb ls) (hb : b = none → cb = 0) (h0 : 0 ≤ f.off) (h1 : f.off ≤ 1152921504606846976) (hsm : ∀ e ∈ f.es, e.e.Sm) (hls : ∀ e ∈ ls, e.e.Sm) (hn : f.es.length ≤ 400) (hm : ls.length ≤ 400) :
    Calls Try.prog 17 #[f.v, .slice b ls.length cb] w (FeNew (Fd.add f.f (ls.map Le.e)) w) := by
  obtain ⟨w1, hw1⟩ : ∃ w1, w.alloc (.cells #[.int .i64 f.rn, .int .i64 f.re, .int .i64 f.off, .slice f.a f.es.length f.c, .int .i64 f.pn, .int .i64 f.pe, .int .i64 f.unt] 26) = w1 := ⟨_, rfl⟩
  have hb1 : Below w.heap.size w w1 := by rw [← hw1]; exact (Below.refl _ w).alloc (Nat.le_refl _) _
  have hx1 : FeBox w1 w.heap.size f := by rw [← hw1]; exact FeBox.new w f
  have hs1 : w1.heap.size = w.heap.size + 1 := by rw [← hw1]; simp
  obtain ⟨w2, hw2⟩ : ∃ w2, w1.alloc (.cells #[.int .i64 0, .int .i64 0, .int .i64 0, .slice none 0 0, .int .i64 0, .int .i64 0, .int .i64 0] 26) = w2 := ⟨_, rfl⟩
  have hb2 : Below w1.heap.size w1 w2 := by rw [← hw2]; exact (Below.refl _ w1).alloc (Nat.le_refl _) _
  have hy2 : FeBox w2 (w.heap.size + 1) Fe.zero := by rw [← hw2, ← hs1]; exact Fe.zero_new w1
  have hx2 : FeBox w2 w.heap.size f := hx1.next hb2
  have hbb := hb1.trans (hb2.mono hb1.size)
  have HW : Hid ((w.alloc (.cells #[.int .i64 f.rn, .int .i64 f.re, .int .i64 f.off, .slice f.a f.es.length f.c, .int .i64 f.pn, .int .i64 f.pe, .int .i64 f.unt] 26)).alloc (.cells #[.int .i64 0, .int .i64 0, .int .i64 0, .slice none 0 0, .int .i64 0, .int .i64 0, .int .i64 0] 26) = w2) := Lib.hid (by rw [hw1, hw2])
  have hs2 : w2.heap.size = w.heap.size + 2 := by rw [← hw2]; simp; omega
  have HX2 := Lib.hid hx2
  have HY2 := Lib.hid hy2
  have HOK := Lib.hid (hok.1.later hbb)
  have HOA := Lib.hid hok.2
  have HL := Lib.hid (hL.later hbb)
  have HLB := Lib.hid hb
  have HBB := Lib.hid hbb
  have HSM := Lib.hid hsm
  have HLS := Lib.hid hls
  clear hw1 hw2 hb1 hb2 hx1 hy2 hx2 hs1 hbb hok hL hb hsm hls
  obtain ⟨rn, re, off, a, es, c, pn, pe, unt⟩ := f
  unfold Fe.v
  simp only at h0 h1 hn HW HX2 HOK HOA HSM ⊢
  obtain ⟨B, hB⟩ : ∃ B, B = w.heap.size := ⟨_, rfl⟩
  rw [← hB] at HX2 HY2 hs2
  have HB := Lib.hid hB
  go_enter Try.func17, Try.ntmps17
  go_upto_region 1 with (fail)
  rw [HW.out, ← hB]
  clear hB
  obtain ⟨⟨c0, c1, c2, c3, c4, c5, c6⟩, f0, f1, f2, f3, f4, f5, f6⟩ := HX2.out.at
  simp only at c0 c1 c2 c3 c4 c5 c6
  obtain ⟨fo, hfo⟩ : ∃ fo : Int, off + (ls.length : Int) = fo := ⟨_, rfl⟩
  have wq : IntKind.i64.wrap (off + (ls.length : Int)) = fo := by rw [IntWalk.i64_in _ (by omega), hfo]
  have HFO := Lib.hid hfo
  have hf0 : 0 ≤ fo := by omega
  have hf1 : fo ≤ 1152921504606847376 := by omega
  clear hfo
  obtain ⟨w3, hw3⟩ : ∃ w3, w2.setCell ⟨B, 2, none⟩ (.int .i64 fo) = w3 := ⟨_, rfl⟩
  have hx3 := HX2.out.set2 fo
  have hy3 := HY2.out.setFar (g := B) (by omega) 2 (.int .i64 fo)
  have hk3 := HX2.out.setT 2 (.int .i64 fo)
  have hb3 : Below w.heap.size w (w2.setCell ⟨B, 2, none⟩ (.int .i64 fo)) := HBB.out.setCell (p := ⟨B, 2, none⟩) (by simp only; rw [HB.out]; exact Nat.le_refl _) _
  rw [hw3] at hx3 hy3 hk3 hb3
  have hz3 := hk3.size'
  simp only at hx3
  obtain ⟨w4, hw4⟩ : ∃ w4, w3.alloc (.cells #[.slice a es.length c, .slice b ls.length cb] 24) = w4 := ⟨_, rfl⟩
  have hb4 : Below w3.heap.size w3 w4 := by rw [← hw4]; exact (Below.refl _ w3).alloc (Nat.le_refl _) _
  have hr4 := World.alloc_heap_new w3 (.cells #[.slice a es.length c, .slice b ls.length cb] 24)
  rw [hw4] at hr4
  have HCC := Lib.hid (concat_any w3.heap.size a c es b cb ls w4 (by rw [cell_of_row _ _ _ _ _ (0, 0) hr4]; rfl) (by rw [cell_of_row _ _ _ _ _ (0, 0) hr4]; rfl) ((HOK.out.keepT hk3).later hb4) HOA.out ((HL.out.keepT hk3).later hb4) HLB.out (by omega) (by omega))
  have HW3 := Lib.hid hw3
  have HW4 := Lib.hid hw4
  have HX3 := Lib.hid hx3
  have HX4 := Lib.hid (hx3.next hb4)
  have HY4 := Lib.hid (hy3.next hb4)
  have HB4 := Lib.hid (hb3.trans (hb4.mono hb3.size))
  clear c0 c1 c3 c4 c5 c6 f0 f1 f3 f4 f5 f6 hw3 hx3 hy3 hk3 hb3 hw4 hb4 hr4
  go_upto_region 2 with (fail)
  rw [HW3.out]
  clear c2 f2
  obtain ⟨⟨-, -, -, c3, -⟩, -⟩ := HX3.out.at
  simp only at c3
  go_wp2_with fail
  rw [HW4.out]
  refine HCC.out.mono ?_
  rintro e w5 ⟨v, rfl, hr⟩
  obtain ⟨a5, cc5, rfl, he5, hn5⟩ := hr.efs
  have hb5 := hr.2.1
  have HX5 := Lib.hid (HX4.out.next hb5)
  have HY5 := Lib.hid (HY4.out.next hb5)
  have HB5 := Lib.hid (HB4.out.trans (hb5.mono HB4.out.size))
  have HE5 := Lib.hid he5
  have HN5 := Lib.hid hn5
  clear hr he5 hn5 hb5 c3
  obtain ⟨⟨-, -, -, d3, -⟩, -, -, -, g3, -⟩ := HX5.out.at
  obtain ⟨xs, hxs⟩ : ∃ xs, es ++ ls = xs := ⟨_, rfl⟩
  have hxl : xs.length = es.length + ls.length := by rw [← hxs, List.length_append]
  have HXS := Lib.hid hxs
  have HXL := Lib.hid hxl
  have hxn : xs.length ≤ 800 := by omega
  rw [hxs] at HE5 ⊢
  obtain ⟨w6, hw6⟩ : ∃ w6, w5.setCell ⟨B, 3, none⟩ (.slice a5 xs.length cc5) = w6 := ⟨_, rfl⟩
  have hx6 := HX5.out.set3 a5 xs cc5
  have hy6 := HY5.out.setFar (g := B) (by omega) 3 (.slice a5 xs.length cc5)
  have hk6 := HX5.out.setT 3 (.slice a5 xs.length cc5)
  have hb6 : Below w.heap.size w (w5.setCell ⟨B, 3, none⟩ (.slice a5 xs.length cc5)) := HB5.out.setCell (p := ⟨B, 3, none⟩) (by simp only; rw [HB.out]; exact Nat.le_refl _) _
  rw [hw6] at hx6 hy6 hk6 hb6
  have HW6 := Lib.hid hw6
  have HX6 := Lib.hid hx6
  have HY6 := Lib.hid hy6
  have HB6 := Lib.hid hb6
  have HE6 := Lib.hid (HE5.out.keepT hk6)
  have hok7 : (⟨rn, re, fo, a5, xs, cc5, pn, pe, unt⟩ : Fe).Ok (afterW w6 ⟨rn, re, fo, a5, xs, cc5, pn, pe, unt⟩ (fo - 64)) := ⟨HE6.out.later (afterW_below _ _ _), HN5.out⟩
  have hcp := copies_new w6.heap.size ⟨rn, re, fo, a5, xs, cc5, pn, pe, unt⟩ (fo - 64) 64 (afterW w6 ⟨rn, re, fo, a5, xs, cc5, pn, pe, unt⟩ (fo - 64)) (afterW_box _ _ _).1 (afterW_box _ _ _).2 hok7 ⟨⟨hf0, by simp only; omega⟩, by simp only; omega, fun e he => by
      rw [← hxs] at he
      rcases List.mem_append.1 he with he | he
      · exact HSM.out e he
      · exact HLS.out e he⟩ (by omega) (by omega) (by decide)
  have hdl : ((xs.drop (fo - 64 - (fo - (xs.length : Int))).toNat).take 64).map Le.e = Fd.last (xs.map Le.e) := by
    have hn : (fo - 64 - (fo - (xs.length : Int))).toNat = xs.length - 64 := by omega
    rw [hn, List.take_of_length_le (by rw [List.length_drop]; omega), List.map_drop]
    unfold Fd.last
    rw [List.length_map]
  simp only at hcp
  rw [hdl] at hcp
  have HCP := Lib.hid hcp
  have HAF := Lib.hid (after_any ⟨rn, re, fo, a5, xs, cc5, pn, pe, unt⟩ (fo - 64) w6)
  have HAB := Lib.hid (afterW_below w6 ⟨rn, re, fo, a5, xs, cc5, pn, pe, unt⟩ (fo - 64))
  unfold Fe.v at HAF
  simp only at HAF
  have wq2 : IntKind.i64.wrap (fo - 64) = fo - 64 := IntWalk.i64_in _ (by omega)
  generalize afterW w6 ⟨rn, re, fo, a5, xs, cc5, pn, pe, unt⟩ (fo - 64) = w7 at *
  clear hxs hxl hw6 hx6 hy6 hk6 hb6 hz3 hok7 hcp hdl
  simp only at d3 HX6
  go_upto_region 3 with (fail)
  rw [HW6.out]
  clear d3 g3
  obtain ⟨⟨c0, c1, c2, c3, c4, c5, c6⟩, -⟩ := HX6.out.at
  simp only at c0 c1 c2 c3 c4 c5 c6
  go_wp2_with fail
  refine HAF.out.mono ?_
  rintro e w7' ⟨rfl, hw7⟩
  subst hw7
  go_wp2_with fail
  refine HCP.out.mono ?_
  rintro e w8 ⟨a8, c8, es8, rfl, he8, hn8, hm8, hb8, hw8, hf8⟩
  have hz7 := HAB.out.size
  have hz6 := HB6.out.size
  have h68 := HAB.out.trans (hb8.mono HAB.out.size)
  have hx8 := HX6.out.next h68
  have hy8 := HY6.out.next h68
  obtain ⟨⟨-, -, -, d3, -⟩, -, -, -, g3, -⟩ := hx8.at
  simp only at d3
  obtain ⟨w9, hw9⟩ : ∃ w9, w8.setCell ⟨B, 3, none⟩ (.slice a8 es8.length c8) = w9 := ⟨_, rfl⟩
  have hx9 := hx8.set3 a8 es8 c8
  have hy9 := hy8.setFar (g := B) (by omega) 3 (.slice a8 es8.length c8)
  have hk9 := hx8.setT 3 (.slice a8 es8.length c8)
  have hb9 : Below w.heap.size w (w8.setCell ⟨B, 3, none⟩ (.slice a8 es8.length c8)) := (HB6.out.trans (h68.mono HB6.out.size)).setCell (p := ⟨B, 3, none⟩) (by simp only; rw [HB.out]; exact Nat.le_refl _) _
  rw [hw9] at hx9 hy9 hk9 hb9
  have he9 := he8.keepT hk9
  have HFIN : Hid (FeNew (Fd.add (Fe.f ⟨rn, re, off, a, es, c, pn, pe, unt⟩) (ls.map Le.e)) w (.returned (Fe.v ⟨rn, re, fo, a8, es8, c8, pn, pe, unt⟩)) (stFe w9 (B + 1) ⟨rn, re, fo, a8, es8, c8, pn, pe, unt⟩)) := Lib.hid
    ⟨⟨rn, re, fo, a8, es8, c8, pn, pe, unt⟩, rfl, ⟨he9.keepT (stFe_T hy9 _), hn8⟩, by
      unfold Fe.f Fd.add
      simp only [List.length_map]
      rw [HFO.out, hm8, ← HXS.out, List.map_append], stFe_below hb9 (by rw [HB.out]; omega) _, fun b o e => by have := hw8 b o e; omega, fun e he k hk => hf8 e he k (by omega)⟩
  have HW9 := Lib.hid hw9
  have HX9 := Lib.hid hx9
  have HY9 := Lib.hid hy9
  simp only at HX9
  clear he8 hm8 hb8 hw8 hf8 hz7 hz6 h68 hx8 hy8 hw9 hx9 hy9 hk9 hb9 he9 c0 c1 c2 c3 c4 c5 c6
  go_upto_region 4 with (fail)
  rw [HW9.out]
  clear d3 g3
  obtain ⟨⟨c0, c1, c2, c3, c4, c5, c6⟩, -⟩ := HX9.out.at
  obtain ⟨⟨y0, y1, y2, y3, y4, y5, y6⟩, z0, z1, z2, z3, z4, z5, z6⟩ := HY9.out.at
  simp only [Fe.zero, List.length_nil] at c0 c1 c2 c3 c4 c5 c6 y0 y1 y2 y3 y4 y5 y6
  go_wp2
  exact bodyPost_ret (results_cell rfl rfl (loadFe (HY9.out.store ⟨rn, re, fo, a8, es8, c8, pn, pe, unt⟩))) rfl HFIN.out
theorem add_any (f : Fe) (b : Option Addr) (cb : Nat) (ls : List Le) (w : World) (hok : f.Ok w) (hL : Efs w b cb ls) (hb : b = none → cb = 0) (h0 : 0 ≤ f.off) (h1 : f.off ≤ 1152921504606846976) (hsm : ∀ e ∈ f.es, e.e.Sm) (hls : ∀ e ∈ ls, e.e.Sm) (hn : f.es.length ≤ 400) (hm : ls.length ≤ 400) :
    Calls Try.prog 17 #[f.v, .slice b ls.length cb] w (FeOut (Fd.add f.f (ls.map Le.e)) w) :=
  (add_new f b cb ls w hok hL hb h0 h1 hsm hls hn hm).mono fun _ _ h => h.out
end Go.Proofs.Ytihleddhjmejoaa
