/- The contract of list.Rem. -/
import Derived.Test.YtjfjlbgbdjcecaaLsPush
import Derived.Test.YtjfjlbgbdjcecaaLsWithout
import Derived.Scope
namespace Go.Proofs.Ytjfjlbgbdjcecaa
open Go.RowKit Go.Shelf
attribute [local go_sem] Oper.semAt_some
set_option linter.unusedVariables false
set_option linter.unusedSimpArgs false

theorem wpIn_scope_wide {P : Program} {c : Code} {Q : Exit → Act → World → Prop} {a : Act} {w : World} (h : c.wpIn Fence.wide 0 P (Exit.noGoto Q) a w) : (Code.scope c).wpIn Fence.wide 0 P Q a w :=
  wpIn_wide.2 (wp_scope_straight (wpIn_wide.1 h))
theorem results_tmp2' {fn : Func} {t u : Tmp} (h : fn.results = #[.tmp t, .tmp u]) (tmps : Array Value) (P : Program) (w : World) : (results fn tmps).run P w = .ok (.tuple #[tmps.getD t undef, tmps.getD u undef]) w := by
  simp [results, h]

/-- Rem's own variables: n, v, the marks, how many are marked. -/
def RInv (w : World) (n : Int) (v : Ls.Bs) (len : Nat) (pre : List Ls.El) (A : World) : Prop :=
  Boxed A w.heap.size 3 (.int .i64 n) ∧ Boxed A (w.heap.size + 1) 9 (.string ⟨v.toArray⟩) ∧ Gn A (w.heap.size + 2) len (Ls.markB v pre) ∧ Boxed A (w.heap.size + 2 + 1) 53 (.slice (some ⟨w.heap.size + 2, 0, none⟩) len len) ∧ Boxed A (w.heap.size + 2 + 1 + 1) 3 (.int .i64 (Ls.hitN v pre : Int)) ∧ Below w.heap.size w A
theorem RInv.keep {w A C : World} {n : Int} {v : Ls.Bs} {len : Nat} {pre : List Ls.El} {S : Nat → Prop} (h : RInv w n v len pre A) (hk : Keeps S A C) (hS : ∀ k, k < w.heap.size + 5 → S k) : RInv w n v len pre C := by
  obtain ⟨h1, h2, h3, h4, h5, h6⟩ := h
  exact ⟨hk.heap h1 (hS _ (by omega)), hk.heap h2 (hS _ (by omega)), h3.keep hk (hS _ (by omega)), hk.heap h4 (hS _ (by omega)), hk.heap h5 (hS _ (by omega)), h6.trans (hk.below h6.size fun k hk' => hS k (by omega))⟩
/-- not so many yet as were asked for. -/
def NotYet (n : Int) (v : Ls.Bs) (pre : List Ls.El) : Prop := n = 0 ∨ Ls.hitN v pre < n.natAbs

theorem RInv.skip {w A : World} {n : Int} {v : Ls.Bs} {len : Nat} {pre : List Ls.El} {x : Ls.El} (h : RInv w n v len pre A) (hx : ¬ x.2 = v) : RInv w n v len (pre ++ [x]) A := by
  unfold RInv at h ⊢
  rw [show Ls.markB v (pre ++ [x]) = Ls.markB v pre from funext fun i => Ls.markB_no hx i, Ls.hitN_no hx]
  exact h
theorem ny_end1 {n : Int} {c : Nat} (h : n = (c : Int) + 1) : n ≠ 0 ∧ c + 1 = n.natAbs := by omega
theorem ny_end2 {n : Int} {c : Nat} (h : n = -((c : Int) + 1)) : n ≠ 0 ∧ c + 1 = n.natAbs := by omega
theorem ny_more {n : Int} {c : Nat} (h : n = 0 ∨ c < n.natAbs) (h1 : ¬ n = (c : Int) + 1) (h2 : ¬ n = -((c : Int) + 1)) : n = 0 ∨ c + 1 < n.natAbs := by omega
theorem notYet_nil (n : Int) (v : Ls.Bs) : NotYet n v [] := by unfold NotYet; rw [Ls.hitN_nil]; omega
/-- one more is marked. -/
theorem RInv.mark {w A : World} {n : Int} {v : Ls.Bs} {len : Nat} {pre : List Ls.El} {x : Ls.El} (h : RInv w n v len pre A) (hx : x.2 = v) (hl : x.1 < len) :
    RInv w n v len (pre ++ [x]) ((A.setCell ⟨w.heap.size + 2, x.1, none⟩ (.bool true)).setCell ⟨w.heap.size + 2 + 1 + 1, 0, none⟩ (.int .i64 ((Ls.hitN v pre : Int) + 1))) := by
  obtain ⟨h1, h2, h3, h4, h5, h6⟩ := h
  have k1 : Keeps (fun k => k ≠ w.heap.size + 2) A (A.setCell ⟨w.heap.size + 2, x.1, none⟩ (.bool true)) := (Keeps.refl _ _).setCell (p := ⟨w.heap.size + 2, x.1, none⟩) (.inr (fun h => h rfl)) _
  have k2 : Keeps (fun k => k ≠ w.heap.size + 2 + 1 + 1) (A.setCell ⟨w.heap.size + 2, x.1, none⟩ (.bool true)) ((A.setCell ⟨w.heap.size + 2, x.1, none⟩ (.bool true)).setCell ⟨w.heap.size + 2 + 1 + 1, 0, none⟩ (.int .i64 ((Ls.hitN v pre : Int) + 1))) := (Keeps.refl _ _).setCell (p := ⟨w.heap.size + 2 + 1 + 1, 0, none⟩) (.inr (fun h => h rfl)) _
  refine ⟨k2.heap (k1.heap h1 (by omega)) (by omega), k2.heap (k1.heap h2 (by omega)) (by omega), ?_, k2.heap (k1.heap h4 (by omega)) (by omega), ?_, ?_⟩
  · refine Gn.keep (S := fun k => k ≠ w.heap.size + 2 + 1 + 1) ⟨by simpa using h3.1, fun i hi => ⟨?_, by simpa using (h3.2 i hi).2⟩⟩ k2 (by omega)
    rw [Ls.markB_yes hx]
    by_cases e : i = x.1
    · subst e
      rw [World.cell?_setCell_same _ _ _ (h3.2 _ hi).1]
      simp
    · rw [World.cell?_setCell_other _ _ _ _ (by intro e'; injection e' with _ e'; omega), (h3.2 i hi).1]
      have : (x.1 == i) = false := by simp; omega
      rw [this, Bool.or_false]
  · have := Boxed.set (.int .i64 ((Ls.hitN v pre : Int) + 1)) (k1.heap h5 (by omega))
    rw [Ls.hitN_yes hx]
    simpa using this
  · exact (h6.setCell (p := ⟨w.heap.size + 2, x.1, none⟩) (show w.heap.size ≤ w.heap.size + 2 by omega) _).setCell (p := ⟨w.heap.size + 2 + 1 + 1, 0, none⟩) (show w.heap.size ≤ w.heap.size + 2 + 1 + 1 by omega) _

theorem infoB : (Try.prog.info? 4).map (fun i => (i.zero, i.size, i.bytes)) = some (some (.bool false), 1, 1) := by kernel_rfl
theorem make_bools (w : World) (n : Nat) (hn : n ≤ 1000000) : ∃ W, (Instr.makeSlice 53 (.int .i64 (n : Int)) (.int .i64 (n : Int))).run Try.prog w = .ok (.slice (some ⟨w.heap.size, 0, none⟩) n n) W ∧ Gn W w.heap.size n (fun _ => false) ∧ W.heap.size = w.heap.size + 1 ∧ Below w.heap.size w W := by
  obtain ⟨i, hi, hz, hs, hb⟩ := info_parts infoB
  have h := run_make (P := Try.prog) w 53 4 i (.bool false) Try.underlying53 hi hz .i64 .i64 n n (by omega) (Int.le_refl _) (by rw [hb]; omega) (by omega)
  rw [hs, Int.toNat_natCast] at h
  refine ⟨_, h, ⟨by simp, fun j hj => ?_⟩, by simp, (Below.refl _ _).alloc (Nat.le_refl _) _⟩
  have hg := World.alloc_heap_new w (.cells (madeCells (Value.bool false).cells (n * 1)) 4)
  constructor
  · rw [cell_of_row _ _ j _ _ _ hg]
    simp [madeCells, Value.cells, hj, Nat.mod_one]
  · unfold World.frozen?
    rw [hg]
    simp

/-- list.list of list.without, as Rem calls them. -/
theorem rem_tail (a : Option Addr) (cap : Nat) (ws : List Ls.Bs) (bg : Nat) (g : Nat → Bool) (W : World) (hF : Wds W a cap ws) (hG : Gn W bg ws.length g) (hn : ws.length ≤ 1000000) (ho : ∀ s ∈ ws, s.length ≤ 1000000) :
    ∃ W1, Calls Try.prog 27 #[.slice a ws.length cap, .slice (some ⟨bg, 0, none⟩) ws.length ws.length] W (fun e w' => e = .returned (.func (.func 32) #[] #[.pointer (some ⟨W.heap.size, 0, none⟩), .pointer (some ⟨W.heap.size + 1, 0, none⟩)]) ∧ W1 = w') ∧ Below W.heap.size W W1 ∧
      Calls Try.prog 25 #[.slice (some ⟨W1.heap.size, 0, none⟩) 1 1] (W1.alloc (.cells #[.func (.func 32) #[] #[.pointer (some ⟨W.heap.size, 0, none⟩), .pointer (some ⟨W.heap.size + 1, 0, none⟩)]] 51)) fun e W' => ∃ u, e = .returned u ∧ RowW W u ((Ls.keptK g (Ls.dirL false ws)).map (·.2)) W' := by
  have k1 := without_any a (some ⟨bg, 0, none⟩) ws.length cap ws.length ws.length W
  obtain ⟨W1, hW1⟩ : ∃ W1, (W.alloc (.cells #[.slice a ws.length cap] 22)).alloc (.cells #[.slice (some ⟨bg, 0, none⟩) ws.length ws.length] 53) = W1 := ⟨_, rfl⟩
  rw [hW1] at k1
  have hB : Below W.heap.size W W1 := by rw [← hW1]; exact ((Below.refl _ W).alloc (Nat.le_refl _) _).alloc (by simp) _
  have p1 : Boxed W1 W.heap.size 22 (.slice a ws.length cap) := by rw [← hW1]; exact (Boxed.new W _ _).alloc _
  have p2 : Boxed W1 (W.heap.size + 1) 53 (.slice (some ⟨bg, 0, none⟩) ws.length ws.length) := by
    rw [← hW1]
    have := Boxed.new (W.alloc (.cells #[.slice a ws.length cap] 22)) 53 (.slice (some ⟨bg, 0, none⟩) ws.length ws.length)
    rwa [World.size_alloc] at this
  have hs := without_seq W.heap.size bg a cap ws g W1 p1 p2 (hG.keep (Keeps.of_below (S := fun k => k < W.heap.size) hB fun _ _ h => h) hG.1) (hF.later hB) hn ho
  have hl := list_of1 32 #[.pointer (some ⟨W.heap.size, 0, none⟩), .pointer (some ⟨W.heap.size + 1, 0, none⟩)] _ 1000000 W1 (fun args w => enters_of Try.func32 (by kernel_rfl) rfl args w) ((hs.weak okI_okE).most hn) (Nat.le_refl _) (Nat.le_trans (Ls.keptK_le _ _) (by rw [Ls.dirL_len]; exact hn))
  exact ⟨W1, (callsIn_wide.1 k1).mono fun e w' ⟨he, hw⟩ => ⟨he, hw.symm⟩, hB, (callsIn_wide.1 hl).mono fun e W' ⟨u, he, hr⟩ => ⟨u, he, hr.lift hB⟩⟩

/-- what the end of Rem leans on. -/
theorem rem_ends {w A : World} {n : Int} {v : Ls.Bs} {ws : List Ls.Bs} {pre : List Ls.El} {a : Option Addr} {cap : Nat} (hF : Wds w a cap ws) (hR : RInv w n v ws.length pre A) (hE : Ls.EndsAt ws v n pre) (hn : ws.length ≤ 1000000) (ho : ∀ s ∈ ws, s.length ≤ 1000000) :
    ∀ W, Keeps (fun _ => True) A W → ∃ W1, Calls Try.prog 27 #[.slice a ws.length cap, .slice (some ⟨w.heap.size + 2, 0, none⟩) ws.length ws.length] W (fun e w' => e = .returned (.func (.func 32) #[] #[.pointer (some ⟨W.heap.size, 0, none⟩), .pointer (some ⟨W.heap.size + 1, 0, none⟩)]) ∧ W1 = w') ∧ Below W.heap.size W W1 ∧
      Calls Try.prog 25 #[.slice (some ⟨W1.heap.size, 0, none⟩) 1 1] (W1.alloc (.cells #[.func (.func 32) #[] #[.pointer (some ⟨W.heap.size, 0, none⟩), .pointer (some ⟨W.heap.size + 1, 0, none⟩)]] 51)) fun e W' => ∃ u, e = .returned u ∧ RowW W u (Ls.remS ws v n) W' := by
  intro W hk
  have hRW := hR.keep hk fun _ _ => trivial
  obtain ⟨W1, k1, hB, k2⟩ := rem_tail a cap ws (w.heap.size + 2) (Ls.markB v pre) W (hF.later hRW.2.2.2.2.2) hRW.2.2.1 hn ho
  rw [Ls.kept_drop (Ls.ends_marks hE).2] at k2
  exact ⟨W1, k1, hB, k2⟩

set_option maxRecDepth 100000 in
set_option maxHeartbeats 4000000 in
theorem rem_any (a : Option Addr) (cap : Nat) (ws : List Ls.Bs) (n : Int) (v : Ls.Bs) (w : World) (hF : Wds w a cap ws) (hi : -9223372036854775808 ≤ n) (hi2 : n ≤ 9223372036854775807) (hn : ws.length ≤ 1000000) (ho : ∀ s ∈ ws, s.length ≤ 1000000) :
    CallsIn Fence.wide 0 Try.prog 14 #[.slice a ws.length cap, .int .i64 n, .string ⟨v.toArray⟩] w fun e W => ∃ u, e = .returned (.tuple #[u, .int .i64 (Ls.remN ws v n : Int)]) ∧ RowW w u (Ls.remS ws v n) W := by
  have hnI : (ws.length : Int) ≤ 1000000 := by omega
  have HF := Lib.hid hF
  clear hF
  refine callsIn_of_wp_marks Try.func14 rfl trivial ?_ rfl
  simp only [Try.ntmps14, List.size_toArray, List.length_cons, List.length_nil, Nat.reduceAdd, Nat.reduceSub, Array.replicate_succ, Array.replicate_zero, List.push_toArray, List.append_toArray, List.nil_append, List.cons_append]
  gi_wp2_with fail
  refine wpIn_scope_wide ?_
  obtain ⟨W0, hW0⟩ : ∃ W0, (w.alloc (.cells #[.int .i64 n] 3)).alloc (.cells #[.string ⟨v.toArray⟩] 9) = W0 := ⟨_, rfl⟩
  have hs0 : W0.heap.size = w.heap.size + 2 := by rw [← hW0]; simp
  have hB0 : Below w.heap.size w W0 := by rw [← hW0]; exact ((Below.refl _ w).alloc (Nat.le_refl _) _).alloc (by simp) _
  have p1 : Boxed W0 w.heap.size 3 (.int .i64 n) := by rw [← hW0]; exact (Boxed.new w _ _).alloc _
  have p2 : Boxed W0 (w.heap.size + 1) 9 (.string ⟨v.toArray⟩) := by
    rw [← hW0]
    have := Boxed.new (w.alloc (.cells #[.int .i64 n] 3)) 9 (.string ⟨v.toArray⟩)
    rwa [World.size_alloc] at this
  obtain ⟨Wg, hmk, hG, hzg, hBg⟩ := make_bools W0 ws.length hn
  rw [hs0] at hmk hG hzg
  rw [hW0]
  obtain ⟨W1, hW1⟩ : ∃ W1, (Wg.alloc (.cells #[.slice (some ⟨w.heap.size + 2, 0, none⟩) ws.length ws.length] 53)).alloc (.cells #[.int .i64 0] 3) = W1 := ⟨_, rfl⟩
  have hs1 : W1.heap.size = w.heap.size + 5 := by rw [← hW1]; simp; omega
  have hk1 : Keeps (fun _ => True) Wg W1 := by rw [← hW1]; exact ((Keeps.refl _ _).alloc _).alloc _
  have hkg : Keeps (fun k => k < W0.heap.size) W0 Wg := Keeps.of_below hBg fun _ _ h => h
  have hR0 : RInv w n v ws.length [] W1 := by
    refine ⟨hk1.heap (hkg.heap p1 (by omega)) trivial, hk1.heap (hkg.heap p2 (by omega)) trivial, hG.keep hk1 trivial, ?_, ?_, ?_⟩
    · rw [← hW1, ← hzg]; exact (Boxed.new Wg _ _).alloc _
    · rw [← hW1, ← hzg]
      have := Boxed.new (Wg.alloc (.cells #[.slice (some ⟨w.heap.size + 2, 0, none⟩) ws.length ws.length] 53)) 3 (.int .i64 0)
      rwa [World.size_alloc] at this
    · exact (hB0.trans (hBg.mono hB0.size)).trans (hk1.below (by omega) fun _ _ => trivial)
  have c1 : ((Wg.alloc (.cells #[.slice (some ⟨w.heap.size + 2, 0, none⟩) ws.length ws.length] 53)).alloc (.cells #[.int .i64 0] 3)).cell? ⟨w.heap.size, 0, none⟩ = some (.int .i64 n) := by rw [hW1]; exact hR0.1.cell
  obtain ⟨back, hback⟩ : ∃ back, decide (n < 0) = back := ⟨_, rfl⟩
  have hwk := walk_any back a ws.length cap W1
  have hsq := walk_seq back W1.heap.size a cap ws (W1.alloc (.cells #[.slice a ws.length cap] 22)) (Boxed.new W1 _ _) ((HF.out.later hR0.2.2.2.2.2).later ((Below.refl _ _).alloc (Nat.le_refl _) _)) hn ho (fun k => k < w.heap.size ∨ k = w.heap.size + 5) (fun _ => False) (.inr hs1) (fun b off ha h0 => .inl (wds_block HF.out b off ha h0))
  obtain ⟨W2, hW2⟩ : ∃ W2, W1.alloc (.cells #[.slice a ws.length cap] 22) = W2 := ⟨_, rfl⟩
  rw [hW2] at hwk hsq
  rw [hs1] at hwk hsq
  have hs2 : W2.heap.size = w.heap.size + 6 := by rw [← hW2]; simp; omega
  have hR2 : RInv w n v ws.length [] W2 := hR0.keep (S := fun _ => True) (by rw [← hW2]; exact (Keeps.refl _ _).alloc _) fun _ _ => trivial
  have HR2 := Lib.hid hR2
  have HWK := Lib.hid hwk
  have HSQ := Lib.hid hsq
  have HW1 := Lib.hid hW1
  have HS2 := Lib.hid hs2
  have HBK := Lib.hid hback
  have eg := eg_gfB back
  generalize gfB back = gf at HWK HSQ eg
  clear hW0 p1 p2 hG hB0 hBg hs0 hR0 hwk hsq hR2 hW1 hW2 hs2 hs1 hk1 hkg
  gi_wp2_with fail
  refine wpIn_label ?_
  simp only [Exit.then]
  gi_wp2_with (rw [HW1.out]; refine ⟨trivial, rfl, ?_⟩; with_reducible refine HWK.out.mono ?_; rintro e w2' ⟨rfl, hw⟩; have HW2 := Lib.hid hw; clear hw)
  obtain rfl : w2' = W2 := HW2.out
  clear c1 hback hmk
  have hs2 := HS2.out
  refine wpIn_rangeB (gf := gf) (lb := #[.pointer (some ⟨w.heap.size + 5, 0, none⟩)]) rfl eg HSQ.out (Below.refl _ _) (fun k hk => by omega) (fun k hk => hk.elim) (fun _ => rfl)
    (fun _ pre A => RInv w n v ws.length pre A ∧ NotYet n v pre) (fun c _ pre A => c = .exit 0 ∧ RInv w n v ws.length pre A ∧ n ≠ 0 ∧ Ls.hitN v pre = n.natAbs) ?hI ?hIx (fun h => by cases h) ⟨HR2.out, notYet_nil n v⟩
    (fun _ x a' _ => a' = { tmps := #[.slice a ws.length cap, .int .i64 n, .string ⟨v.toArray⟩, undef, .pointer (some ⟨w.heap.size, 0, none⟩), .pointer (some ⟨w.heap.size + 1, 0, none⟩), .slice none 0 0, .int .i64 0, .pointer (some ⟨w.heap.size + 2 + 1, 0, none⟩), .pointer (some ⟨w.heap.size + 2 + 1 + 1, 0, none⟩), .int .i64 (x.1 : Int), .string ⟨x.2.toArray⟩, .slice a ws.length cap, .int .i64 (ws.length : Int), .slice (some ⟨w.heap.size + 2, 0, none⟩) ws.length ws.length, .slice a ws.length cap, .int .i64 n, .bool back, .func (.func gf) #[] #[.pointer (some ⟨w.heap.size + 5, 0, none⟩)], .int .i64 (x.1 : Int), .string ⟨x.2.toArray⟩, undef, undef, undef, undef, undef, undef, undef, undef, undef, undef, undef, undef, undef, undef, undef, undef, undef, undef, undef, undef, undef], defers := [] })
    (fun O x a' A C h hk => h) ?assign ?body ?done ?stop
  case hI =>
    rintro O s A C ⟨h1, h2⟩ hk
    exact ⟨h1.keep hk fun k hk' => ⟨id, .inl (by omega)⟩, h2⟩
  case hIx =>
    rintro c O s A C ⟨h0, h1, h2⟩ hk
    exact ⟨h0, h1.keep hk fun k hk' => ⟨id, .inl (by omega)⟩, h2⟩
  case assign =>
    intro O pre x A K hO hA hi hK
    have HK := Lib.hid hK
    have HI := Lib.hid hi
    clear hK hi
    unfold encE
    gi_wp2
    exact HK.out _ _ (Keeps.refl _ _) HI.out rfl
  case body =>
    rintro O pre x a' A hO hA ⟨r, hr⟩ ⟨hR, hNY⟩ rfl hlen hT
    obtain ⟨x1, x2⟩ := x
    have hxn : x1 < ws.length := hT.2
    have hxI : (x1 : Int) < (ws.length : Int) := by omega
    have hcl := Ls.hitN_le v pre
    have b1 := hR.1.cell
    have b2 := hR.2.1.cell
    have b3 := (hR.2.2.1.2 x1 hxn).1
    have b3f := (hR.2.2.1.2 x1 hxn).2
    have b4 := hR.2.2.2.1.cell
    have b5 := hR.2.2.2.2.1.cell
    have b5f := hR.2.2.2.2.1.frozen
    have HR := Lib.hid hR
    have HNY := Lib.hid hNY
    have HO := Lib.hid hO
    clear hR hNY hO hr hT HWK HSQ
    by_cases hx : x2 = v
    · subst hx
      have HM := Lib.hid (HR.out.mark (x := (x1, x2)) rfl hxn)
      have HH := Lib.hid (Ls.hitN_yes (v := x2) (pre := pre) (x := (x1, x2)) rfl)
      have hny2 : n = 0 ∨ Ls.hitN x2 pre < n.natAbs := HNY.out
      clear HNY
      obtain ⟨c, hc⟩ : ∃ c, Ls.hitN x2 pre = c := ⟨_, rfl⟩
      rw [hc] at HM HH hny2 b5 hcl
      have HNY2 := Lib.hid hny2
      clear hc hny2
      have hw1 : IntKind.i64.wrap ((c : Int) + 1) = (c : Int) + 1 := IntWalk.i64_in _ (by omega)
      have hw2 : IntKind.i64.wrap (-((c : Int) + 1)) = -((c : Int) + 1) := IntWalk.i64_in _ (by omega)
      have hne : (x2 != x2) = false := by simp
      have hne2 : (x2 == x2) = true := by simp
      have nR : ∀ k, k = w.heap.size + 2 ∨ k = w.heap.size + 2 + 1 + 1 → ¬ RoundS (fun k => k < w.heap.size ∨ k = w.heap.size + 5) (fun _ => False) (w.heap.size + 6) O k := by
        rintro k hk (h | h | h)
        · omega
        · exact h
        · omega
      have hkm : Keeps (RoundS (fun k => k < w.heap.size ∨ k = w.heap.size + 5) (fun _ => False) (w.heap.size + 6) O) A ((A.setCell ⟨w.heap.size + 2, x1, none⟩ (.bool true)).setCell ⟨w.heap.size + 2 + 1 + 1, 0, none⟩ (.int .i64 ((c : Int) + 1))) :=
        ((Keeps.refl _ _).setCell (p := ⟨w.heap.size + 2, x1, none⟩) (.inr (nR _ (.inl rfl))) _).setCell (p := ⟨w.heap.size + 2 + 1 + 1, 0, none⟩) (.inr (nR _ (.inr rfl))) _
      have HKM := Lib.hid hkm
      clear hkm nR
      by_cases e1 : n = (c : Int) + 1
      · have q1 : (n == (c : Int) + 1) = true := by simpa using e1
        have HE := Lib.hid (ny_end1 e1)
        clear e1 HNY2
        gi_wp2
        exact ⟨HKM.out, O, ⟨fun j hj => ⟨Nat.lt_of_lt_of_le (HO.out j hj).2 HKM.out.size, .inl hj⟩, rfl, HM.out, HE.out.1, by rw [HH.out]; exact HE.out.2⟩⟩
      · by_cases e2 : n = -((c : Int) + 1)
        · have q1 : (n == (c : Int) + 1) = false := by simpa using e1
          have q2 : (n == -((c : Int) + 1)) = true := by simpa using e2
          have HE := Lib.hid (ny_end2 e2)
          clear e1 e2 HNY2
          gi_wp2
          exact ⟨HKM.out, O, ⟨fun j hj => ⟨Nat.lt_of_lt_of_le (HO.out j hj).2 HKM.out.size, .inl hj⟩, rfl, HM.out, HE.out.1, by rw [HH.out]; exact HE.out.2⟩⟩
        · have q1 : (n == (c : Int) + 1) = false := by simpa using e1
          have q2 : (n == -((c : Int) + 1)) = false := by simpa using e2
          have HN2 : Hid (NotYet n x2 (pre ++ [(x1, x2)])) := Lib.hid (by unfold NotYet; rw [HH.out]; exact ny_more HNY2.out e1 e2)
          clear e1 e2 HNY2
          gi_wp2
          exact ⟨HKM.out, O, ⟨fun j hj => ⟨Nat.lt_of_lt_of_le (HO.out j hj).2 HKM.out.size, .inl hj⟩, HM.out, HN2.out⟩⟩
    · have hne : (x2 != v) = true := by simpa using hx
      have hne2 : (x2 == v) = false := by simpa using hx
      have HS := Lib.hid (HR.out.skip (x := (x1, x2)) hx)
      have HN2 : Hid (NotYet n v (pre ++ [(x1, x2)])) := Lib.hid (by have := HNY.out; unfold NotYet at this ⊢; rwa [Ls.hitN_no (x := (x1, x2)) hx])
      clear hx
      gi_wp2
      exact ⟨Keeps.refl _ _, O, Grows.same (fun k hk => (HO.out k hk).2), HS.out, HN2.out⟩
  case done =>
    rintro O D xs A hD hDs hO - rfl ⟨hR, hNY⟩ hDd
    have hE : Ls.EndsAt ws v n (Ls.dirL back ws) := by
      have hb := HBK.out
      subst hb
      exact ⟨List.prefix_refl _, .inl ⟨rfl, hNY⟩⟩
    generalize Ls.dirL back ws = pre at hR hE
    clear hNY
    have HT := Lib.hid (rem_ends HF.out hR hE hn ho)
    obtain ⟨hN, -⟩ := Ls.ends_marks hE
    have b3 := hR.2.2.2.1.cell
    have b5 := hR.2.2.2.2.1.cell
    rw [hN] at b5
    have HDd := Lib.hid hDd
    have HR := Lib.hid hR
    have HD := Lib.hid hD
    clear hR hE hN hDd hO hs2 HWK HSQ HR2 hD
    simp only [Exit.inBlock, Exit.then]
    gi_wp2
    have hlt1 : w.heap.size + 2 + 1 < A.heap.size := HR.out.2.2.2.1.lt
    have hlt2 : w.heap.size + 2 + 1 + 1 < A.heap.size := HR.out.2.2.2.2.1.lt
    obtain ⟨W3, k1, hb1, k2⟩ := HT.out A.drew (Keeps.refl _ _).drew
    rw [show A.drew.heap.size = A.heap.size from rfl] at k1 k2
    have K1 := Lib.hid k1
    have K2 := Lib.hid k2
    have HB1 : Hid (Below A.heap.size A W3) := Lib.hid ((Below.refl _ _).drew.trans hb1)
    have B3 := Lib.hid b3
    have B5 := Lib.hid b5
    clear k1 k2 hb1 HT
    refine wpIn_wide.2 ?_
    go_region_held3 (fun W' => W'.cell? ⟨w.heap.size + 2 + 1, 0, none⟩ = some (.slice (some ⟨w.heap.size + 2, 0, none⟩) ws.length ws.length) ∧ W'.cell? ⟨w.heap.size + 2 + 1 + 1, 0, none⟩ = some (.int .i64 (Ls.remN ws v n : Int)))
      (first
        | go_keep
        | (go_split_ands
           refine ⟨?_, ?_⟩
           · (first | exact (HB2.out.cell (p := ⟨w.heap.size + 2 + 1, 0, none⟩) hlt1).trans B3.out | exact (HB1.out.cell (p := ⟨w.heap.size + 2 + 1, 0, none⟩) hlt1).trans B3.out)
           · (first | exact (HB2.out.cell (p := ⟨w.heap.size + 2 + 1 + 1, 0, none⟩) hlt2).trans B5.out | exact (HB1.out.cell (p := ⟨w.heap.size + 2 + 1 + 1, 0, none⟩) hlt2).trans B5.out)))
      (first
        | (go_at_call 27; (with_reducible refine K1.out.mono ?_); rintro e w3' ⟨rfl, rfl⟩; have c3 := (HB1.out.cell (p := ⟨w.heap.size + 2 + 1, 0, none⟩) hlt1).trans B3.out; have c5 := (HB1.out.cell (p := ⟨w.heap.size + 2 + 1 + 1, 0, none⟩) hlt2).trans B5.out)
        | (go_at_call 25; (with_reducible refine K2.out.mono ?_); rintro e w4 ⟨u, rfl, hr⟩; have HRW := Lib.hid hr; have hr2 := And.right hr; have HB2 : Hid (Below A.heap.size A w4) := Lib.hid ((Below.refl _ _).drew.trans hr2); clear hr hr2))
    gi_wp2
    rw [Exit.noGoto_ret]
    refine ⟨by simp, .inl ⟨_, _, rfl, run_takeDeferred ((HB2.out.block D hDs).trans HDd.out), ?_⟩⟩
    have hkD : Keeps (fun k => k ≠ D) w4 (w4.putObj D (.deferred none)) := (Keeps.refl _ _).putObj (fun h => h rfl) _
    have hwA : Below w.heap.size w A := HR.out.2.2.2.2.2
    have hDw : w.heap.size + 6 ≤ D := by have := HS2.out; have := HD.out; omega
    refine ⟨_, results_tmp2' rfl _ _ _, u, rfl, owns_base (owns_kept HRW.out.1 hkD fun g hg e => ?_) hwA.size, (hwA.trans (HB2.out.mono hwA.size)).trans (hkD.below (Nat.le_trans hwA.size HB2.out.size) fun k hk => by omega)⟩
    have := (HRW.out.1.lt g hg).1
    have hz : A.drew.heap.size = A.heap.size := rfl
    omega
  case stop =>
    rintro O D c pre A hD hDs hO - hSp ⟨rfl, hR, hn0, hc⟩ hDd
    have hE : Ls.EndsAt ws v n pre := by
      have hb := HBK.out
      subst hb
      exact ⟨hSp, .inr ⟨hn0, hc⟩⟩
    clear hSp hn0 hc
    have HT := Lib.hid (rem_ends HF.out hR hE hn ho)
    obtain ⟨hN, -⟩ := Ls.ends_marks hE
    have b3 := hR.2.2.2.1.cell
    have b5 := hR.2.2.2.2.1.cell
    rw [hN] at b5
    have HDd := Lib.hid hDd
    have HR := Lib.hid hR
    have HD := Lib.hid hD
    clear hR hE hN hDd hO hs2 HWK HSQ HR2 hD
    refine wpIn_exit ?_
    simp only [Exit.inBlock, Exit.then, if_true]
    gi_wp2
    have hlt1 : w.heap.size + 2 + 1 < A.heap.size := HR.out.2.2.2.1.lt
    have hlt2 : w.heap.size + 2 + 1 + 1 < A.heap.size := HR.out.2.2.2.2.1.lt
    obtain ⟨W3, k1, hb1, k2⟩ := HT.out A.drew (Keeps.refl _ _).drew
    rw [show A.drew.heap.size = A.heap.size from rfl] at k1 k2
    have K1 := Lib.hid k1
    have K2 := Lib.hid k2
    have HB1 : Hid (Below A.heap.size A W3) := Lib.hid ((Below.refl _ _).drew.trans hb1)
    have B3 := Lib.hid b3
    have B5 := Lib.hid b5
    clear k1 k2 hb1 HT
    refine wpIn_wide.2 ?_
    go_region_held3 (fun W' => W'.cell? ⟨w.heap.size + 2 + 1, 0, none⟩ = some (.slice (some ⟨w.heap.size + 2, 0, none⟩) ws.length ws.length) ∧ W'.cell? ⟨w.heap.size + 2 + 1 + 1, 0, none⟩ = some (.int .i64 (Ls.remN ws v n : Int)))
      (first
        | go_keep
        | (go_split_ands
           refine ⟨?_, ?_⟩
           · (first | exact (HB2.out.cell (p := ⟨w.heap.size + 2 + 1, 0, none⟩) hlt1).trans B3.out | exact (HB1.out.cell (p := ⟨w.heap.size + 2 + 1, 0, none⟩) hlt1).trans B3.out)
           · (first | exact (HB2.out.cell (p := ⟨w.heap.size + 2 + 1 + 1, 0, none⟩) hlt2).trans B5.out | exact (HB1.out.cell (p := ⟨w.heap.size + 2 + 1 + 1, 0, none⟩) hlt2).trans B5.out)))
      (first
        | (go_at_call 27; (with_reducible refine K1.out.mono ?_); rintro e w3' ⟨rfl, rfl⟩; have c3 := (HB1.out.cell (p := ⟨w.heap.size + 2 + 1, 0, none⟩) hlt1).trans B3.out; have c5 := (HB1.out.cell (p := ⟨w.heap.size + 2 + 1 + 1, 0, none⟩) hlt2).trans B5.out)
        | (go_at_call 25; (with_reducible refine K2.out.mono ?_); rintro e w4 ⟨u, rfl, hr⟩; have HRW := Lib.hid hr; have hr2 := And.right hr; have HB2 : Hid (Below A.heap.size A w4) := Lib.hid ((Below.refl _ _).drew.trans hr2); clear hr hr2))
    gi_wp2
    rw [Exit.noGoto_ret]
    refine ⟨by simp, .inl ⟨_, _, rfl, run_takeDeferred ((HB2.out.block D hDs).trans HDd.out), ?_⟩⟩
    have hkD : Keeps (fun k => k ≠ D) w4 (w4.putObj D (.deferred none)) := (Keeps.refl _ _).putObj (fun h => h rfl) _
    have hwA : Below w.heap.size w A := HR.out.2.2.2.2.2
    have hDw : w.heap.size + 6 ≤ D := by have := HS2.out; have := HD.out; omega
    refine ⟨_, results_tmp2' rfl _ _ _, u, rfl, owns_base (owns_kept HRW.out.1 hkD fun g hg e => ?_) hwA.size, (hwA.trans (HB2.out.mono hwA.size)).trans (hkD.below (Nat.le_trans hwA.size HB2.out.size) fun k hk => by omega)⟩
    have := (HRW.out.1.lt g hg).1
    have hz : A.drew.heap.size = A.heap.size := rfl
    omega
end Go.Proofs.Ytjfjlbgbdjcecaa
