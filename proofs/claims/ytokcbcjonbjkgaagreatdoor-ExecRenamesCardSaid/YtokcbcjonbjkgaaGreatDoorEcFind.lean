/- The contract of find of the program's exec. -/
import Derived.Test.YtokcbcjonbjkgaaGreatDoorEcSeq
import Derived.Test.YtokcbcjonbjkgaaGreatDoorCmCalls
namespace Go.Proofs.YtokcbcjonbjkgaaGreatDoor
open Go.RowKit Go.Shelf
attribute [local go_sem] Oper.semAt_some
set_option linter.unusedVariables false
set_option linter.unusedSimpArgs false

theorem Ru.all_found : (Cm.tab.all fun s => (Ru.find s.nm).isSome) = true := by decide
theorem Ru.found {ws : List (List UInt8)} {s : Cm.Sp} (h : Cm.checkS ws = some s) : ∃ rk, Ru.find s.nm = some rk := by
  have hs : s ∈ Cm.tab := by
    unfold Cm.checkS at h
    split at h
    · cases h
    · cases hf : Cm.findS (ws.getD 0 []) with
      | none => rw [hf] at h; cases h
      | some t =>
        rw [hf] at h
        have ht : t ∈ Cm.tab := List.mem_of_find?_eq_some hf
        simp only at h
        split at h
        · cases h; exact ht
        · cases h
  exact Option.isSome_iff_exists.1 (List.all_eq_true.1 Ru.all_found s hs)
theorem Ru.find_hit {nm : List UInt8} {pre : List Ru.Rk} {x : Ru.Rk} (hp : pre ++ [x] <+: Ru.tab) (h : ∀ y ∈ pre, y.r.nm ≠ nm) (hx : x.r.nm = nm) : Ru.find nm = some x := by
  obtain ⟨t, ht⟩ := hp
  unfold Ru.find
  rw [← ht, List.append_assoc, List.find?_append, List.find?_eq_none.2 (fun y hy => by simpa using h y hy)]
  simp [hx]
theorem Ru.find_miss {nm : List UInt8} (h : ∀ y ∈ Ru.tab, y.r.nm ≠ nm) : Ru.find nm = none :=
  List.find?_eq_none.2 fun y hy => by simpa using h y hy

/-- a rule in a block. -/
def RlBox (w : World) (B : Nat) (k : Int) (r : Ru.Rl) (na : Option Nat) : Prop := w.heap[B]? = some (.cells (rlL k r na).toArray 58 (0, 0))
def zeroRl : Value := .agg #[.string ⟨#[]⟩, .int .i64 0, .slice none 0 0, .nilFunc]
/-- what find tells. -/
def EcFindOut (ws : List (List UInt8)) (w : World) (e : Ending) (W : World) : Prop :=
  Below w.heap.size w W ∧ match Cm.checkS ws with
    | none => e = .returned (.tuple #[zeroRl, .bool false])
    | some s => ∃ rk na, Ru.find s.nm = some rk ∧ e = .returned (.tuple #[rlV rk.k rk.r na, .bool true]) ∧ NumsIn W na rk.r.ids
theorem ruleIter_any (w : World) : Calls Tryz.prog 26 #[] w fun e w' => e = .returned (.func (.func 39) #[] #[]) ∧ w = w' := by
  go_enter Tryz.func26, Tryz.ntmps26
  go_wp2
  go_ret
  exact ⟨rfl, rfl⟩

theorem loadVarRl (w : World) (b : Nat) (k : Int) (r : Ru.Rl) (na : Option Nat) (h : RlAt w b 0 k r na) : (loadVar 58 ⟨b, 0, none⟩).run Tryz.prog w = .ok (rlV k r na) w := by
  obtain ⟨h0, h1, h2, h3⟩ := h
  simp at h0 h1 h2 h3
  simp [loadVar, go_sem, h0, h1, h2, h3, rlV]
theorem loadVarRl0 (w : World) (b : Nat) (h : w.heap[b]? = some (.cells #[.string ⟨#[]⟩, .int .i64 0, .slice none 0 0, .nilFunc] 58 (0, 0))) : (loadVar 58 ⟨b, 0, none⟩).run Tryz.prog w = .ok zeroRl w := by
  have h0 : w.cell? ⟨b, 0, none⟩ = some (.string ⟨#[]⟩) := by simp [World.cell?, h]
  have h1 : w.cell? ⟨b, 1, none⟩ = some (.int .i64 0) := by simp [World.cell?, h]
  have h2 : w.cell? ⟨b, 2, none⟩ = some (.slice none 0 0) := by simp [World.cell?, h]
  have h3 : w.cell? ⟨b, 3, none⟩ = some .nilFunc := by simp [World.cell?, h]
  simp [loadVar, go_sem, h0, h1, h2, h3, zeroRl]
theorem RlBox.at {w : World} {B : Nat} {k : Int} {r : Ru.Rl} {na : Option Nat} (h : RlBox w B k r na) : RlAt w B 0 k r na := by
  unfold RlBox at h
  simp [RlAt, World.cell?, h, rlL]
theorem RlBox.lt {w : World} {B : Nat} {k : Int} {r : Ru.Rl} {na : Option Nat} (h : RlBox w B k r na) : B < w.heap.size := (Array.getElem?_eq_some_iff.1 h).1
/-- four cells in a block of rules. -/
def Rl4 (w : World) (B : Nat) (c0 c1 c2 c3 : Value) : Prop := w.heap[B]? = some (.cells #[c0, c1, c2, c3] 58 (0, 0))
theorem Rl4.cells {w : World} {B : Nat} {c0 c1 c2 c3 : Value} (h : Rl4 w B c0 c1 c2 c3) : w.cell? ⟨B, 0, none⟩ = some c0 ∧ w.cell? ⟨B, 1, none⟩ = some c1 ∧ w.cell? ⟨B, 2, none⟩ = some c2 ∧ w.cell? ⟨B, 3, none⟩ = some c3 ∧
    w.frozen? ⟨B, 0, none⟩ = false ∧ w.frozen? ⟨B, 1, none⟩ = false ∧ w.frozen? ⟨B, 2, none⟩ = false ∧ w.frozen? ⟨B, 3, none⟩ = false := by
  unfold Rl4 at h
  simp [World.cell?, World.frozen?, h]
/-- a rule is stored into a block. -/
def stRl (w : World) (B : Nat) (c0 c1 c2 c3 : Value) : World := (((w.setCell ⟨B, 0, none⟩ c0).setCell ⟨B, 1, none⟩ c1).setCell ⟨B, 2, none⟩ c2).setCell ⟨B, 3, none⟩ c3
theorem Rl4.store {w : World} {B : Nat} {a0 a1 a2 a3 : Value} (h : Rl4 w B a0 a1 a2 a3) (c0 c1 c2 c3 : Value) : Rl4 (stRl w B c0 c1 c2 c3) B c0 c1 c2 c3 := by
  unfold Rl4 at h ⊢
  simp [stRl, World.setCell, Array.getElem?_modify, h]
theorem Keeps.stRl {S : Nat → Prop} {A W : World} (h : Keeps S A W) {B : Nat} (hB : A.heap.size ≤ B ∨ ¬ S B) (c0 c1 c2 c3 : Value) : Keeps S A (stRl W B c0 c1 c2 c3) :=
  (((h.setCell (p := ⟨B, 0, none⟩) hB _).setCell (p := ⟨B, 1, none⟩) hB _).setCell (p := ⟨B, 2, none⟩) hB _).setCell (p := ⟨B, 3, none⟩) hB _

set_option maxRecDepth 100000 in
set_option maxHeartbeats 4000000 in
theorem ecFind_none (a : Option Addr) (cap : Nat) (ws : List (List UInt8)) (w : World) (hW : Wds w a cap ws) (hc : Cm.checkS ws = none) :
    CallsIn Fence.wide 0 Tryz.prog 17 #[.slice a ws.length cap] w fun e W => Below w.heap.size w W ∧ e = .returned (.tuple #[zeroRl, .bool false]) := by
  have hck := fun W (h : Wds W a cap ws) => (callsIn_wide.2 (check_c a cap ws W h) : CallsIn Fence.wide 0 Tryz.prog _ _ _ _)
  unfold chkV at hck
  rw [hc] at hck
  simp only [spV, zeroSp] at hck
  have hz : ∀ A : World, Keeps (fun _ => True) (w.alloc (.cells #[.string ⟨#[]⟩, .int .i64 0, .slice none 0 0, .nilFunc] 58)) A → Rl4 A w.heap.size (.string ⟨#[]⟩) (.int .i64 0) (.slice none 0 0) .nilFunc ∧ Below w.heap.size w A := fun A hA => ⟨hA.heap (World.alloc_heap_new w _) trivial, ((Below.refl _ w).alloc (Nat.le_refl _) _).trans (hA.below (by simp) fun _ _ => trivial)⟩
  have HZ := Lib.hid hz
  have HC := Lib.hid (hck (w.alloc (.cells #[.string ⟨#[]⟩, .int .i64 0, .slice none 0 0, .nilFunc] 58)) (hW.later ((Below.refl _ w).alloc (Nat.le_refl _) _)))
  clear hck hW hz
  generalize ws.length = n at *
  refine callsIn_of_wp_marks Tryz.func17 rfl trivial ?_ rfl
  simp only [Tryz.ntmps17, List.size_toArray, List.length_cons, List.length_nil, Nat.reduceAdd, Nat.reduceSub, Array.replicate_succ, Array.replicate_zero, List.push_toArray, List.append_toArray, List.nil_append, List.cons_append]
  gi_wp2
  refine ecScope ?_
  gi_wp2_with (refine ⟨trivial, rfl, ?_⟩; refine HC.out.mono ?_; rintro e w1 ⟨rfl, hb1⟩; have hzk := HZ.out (w1.alloc (.cells #[.string ⟨#[]⟩, .int .i64 0, .int .i64 0, .int .i64 0, .int .i64 0, .int .i64 0, .bool false] 76)) ((Keeps.of_below hb1 fun k h _ => h).alloc _); have HZ1 := Lib.hid hzk; obtain ⟨z0, z1, z2, z3, z4, z5, z6, z7⟩ := hzk.1.cells; clear hzk hb1)
  rw [Exit.noGoto_ret]
  have h4 : Rl4 (stRl _ w.heap.size _ _ _ _) w.heap.size _ _ _ _ := HZ1.out.1.store (.string ⟨#[]⟩) (.int .i64 0) (.slice none 0 0) .nilFunc
  have hbz := HZ1.out.2
  exact ⟨_, results_cellt rfl rfl (loadVarRl0 _ _ h4), hbz.trans ((Keeps.refl (fun k => k ≠ w.heap.size) _).stRl (.inr (by simp)) _ _ _ _ |>.below hbz.size fun k hk => by omega), rfl⟩

/-- find's own variables: the result, the command, what was found. -/
def EfI (w w1 : World) (s : Cm.Sp) (c0 c1 c2 c3 : Value) (W : World) : Prop :=
  Rl4 W w.heap.size (.string ⟨#[]⟩) (.int .i64 0) (.slice none 0 0) .nilFunc ∧ SpBox W w1.heap.size s ∧ Rl4 W (w1.heap.size + 1) c0 c1 c2 c3 ∧ Below w.heap.size w W
theorem EfI.keep {w w1 W W' : World} {s : Cm.Sp} {c0 c1 c2 c3 : Value} (h : EfI w w1 s c0 c1 c2 c3 W) (h1 : w.heap.size < w1.heap.size) {S : Nat → Prop} (hk : Keeps S W W') (hS : ∀ k, k < w1.heap.size + 2 → S k) : EfI w w1 s c0 c1 c2 c3 W' := by
  obtain ⟨k1, k2, k3, k4⟩ := h
  exact ⟨hk.heap k1 (hS _ (by omega)), hk.heap k2 (hS _ (by omega)), hk.heap k3 (hS _ (by omega)), k4.trans (hk.below k4.size fun k hk' => hS k (by omega))⟩
/-- the loop's variable. -/
def RlVar (b : Nat) (mk : Nat → Re → Act) (x : Re) (a' : Act) (A : World) : Prop := ∃ Bx, b ≤ Bx ∧ RlBox A Bx x.k x.r x.na ∧ a' = mk Bx x
theorem RlVar.later {b n : Nat} {mk : Nat → Re → Act} {x : Re} {a' : Act} {A C : World} (h : RlVar b mk x a' A) (hn : n < b) (hk : Keeps (fun k => k ≠ n) A C) : RlVar b mk x a' C := by
  obtain ⟨Bx, h1, h3, h4⟩ := h
  exact ⟨Bx, h1, hk.heap h3 (by omega), h4⟩
theorem NumsIn.ne {w : World} {na : Option Nat} {ids : List Nat} (h : NumsIn w na ids) {n : Nat} (hl : ∃ r, w.heap[n]? = some (.loop r)) : ∀ b, na = some b → b ≠ n := by
  rintro b rfl rfl
  obtain ⟨r, hr⟩ := hl
  unfold NumsIn at h
  simp only at h
  rw [hr] at h
  cases h
theorem NumsIn.ne4 {w : World} {na : Option Nat} {ids : List Nat} (h : NumsIn w na ids) {n : Nat} {c0 c1 c2 c3 : Value} (hl : Rl4 w n c0 c1 c2 c3) : ∀ b, na = some b → b ≠ n := by
  rintro b rfl rfl
  unfold Rl4 at hl
  unfold NumsIn at h
  simp only at h
  rw [hl] at h
  injection h with h
  injection h with h1 h2
  exact absurd h2 (by decide)

set_option maxRecDepth 100000 in
set_option maxHeartbeats 4000000 in
theorem ecFind_some (a : Option Addr) (cap : Nat) (ws : List (List UInt8)) (s : Cm.Sp) (w : World) (hW : Wds w a cap ws) (hc : Cm.checkS ws = some s) :
    CallsIn Fence.wide 0 Tryz.prog 17 #[.slice a ws.length cap] w fun e W => Below w.heap.size w W ∧ ∃ rk na, Ru.find s.nm = some rk ∧ e = .returned (.tuple #[rlV rk.k rk.r na, .bool true]) ∧ NumsIn W na rk.r.ids := by
  have hck := fun W (h : Wds W a cap ws) => (callsIn_wide.2 (check_c a cap ws W h) : CallsIn Fence.wide 0 Tryz.prog _ _ _ _)
  unfold chkV at hck
  rw [hc] at hck
  obtain ⟨rk0, hrk0⟩ := Ru.found hc
  have hz : ∀ A : World, Keeps (fun _ => True) (w.alloc (.cells #[.string ⟨#[]⟩, .int .i64 0, .slice none 0 0, .nilFunc] 58)) A → Rl4 A w.heap.size (.string ⟨#[]⟩) (.int .i64 0) (.slice none 0 0) .nilFunc ∧ Below w.heap.size w A := fun A hA => ⟨hA.heap (World.alloc_heap_new w _) trivial, ((Below.refl _ w).alloc (Nat.le_refl _) _).trans (hA.below (by simp) fun _ _ => trivial)⟩
  have HZ := Lib.hid hz
  have HRK := Lib.hid hrk0
  have HC := Lib.hid (hck (w.alloc (.cells #[.string ⟨#[]⟩, .int .i64 0, .slice none 0 0, .nilFunc] 58)) (hW.later ((Below.refl _ w).alloc (Nat.le_refl _) _)))
  clear hck hW hz hrk0 hc
  generalize ws.length = n at *
  obtain ⟨nm, least, most, first, last, step, wb⟩ := s
  simp only [spV] at HC
  refine callsIn_of_wp_marks Tryz.func17 rfl trivial ?_ rfl
  simp only [Tryz.ntmps17, List.size_toArray, List.length_cons, List.length_nil, Nat.reduceAdd, Nat.reduceSub, Array.replicate_succ, Array.replicate_zero, List.push_toArray, List.append_toArray, List.nil_append, List.cons_append]
  gi_wp2
  refine ecScope ?_
  gi_wp2_with (refine ⟨trivial, rfl, ?_⟩; refine HC.out.mono ?_; rintro e w1 ⟨rfl, hb1⟩; have HB1 := Lib.hid hb1; clear hb1)
  refine wpIn_label ?_
  simp only [Exit.then]
  have hri := fun W => (callsIn_wide.2 (ruleIter_any W) : CallsIn Fence.wide 0 Tryz.prog _ _ _ _)
  gi_wp2_with (refine ⟨trivial, rfl, ?_⟩; refine (hri _).mono ?_; rintro e w2 ⟨rfl, rfl⟩)
  clear hri
  obtain ⟨w2, hw2⟩ : ∃ w2, (w1.alloc (.cells #[.string ⟨nm.toArray⟩, .int .i64 least, .int .i64 most, .int .i64 first, .int .i64 last, .int .i64 step, .bool wb] 76)).alloc (.cells #[.string ⟨#[]⟩, .int .i64 0, .slice none 0 0, .nilFunc] 58) = w2 := ⟨_, rfl⟩
  have hs2 : w1.heap.size + 2 ≤ w2.heap.size := by rw [← hw2]; simp
  have hw1 : w.heap.size < w1.heap.size := by have := HB1.out.size; simp at this; omega
  have hF0 : EfI w w1 ⟨nm, least, most, first, last, step, wb⟩ (.string ⟨#[]⟩) (.int .i64 0) (.slice none 0 0) .nilFunc w2 := by
    have k1 : Keeps (fun _ => True) w1 w2 := by rw [← hw2]; exact ((Keeps.refl _ _).alloc _).alloc _
    obtain ⟨z1, z2⟩ := HZ.out w2 ((Keeps.of_below HB1.out fun k h _ => h).trans k1)
    refine ⟨z1, ?_, ?_, z2⟩
    · rw [← hw2]
      exact ((Keeps.refl (fun _ => True) _).alloc _).heap (World.alloc_heap_new w1 _) trivial
    · rw [← hw2]
      have := World.alloc_heap_new (w1.alloc (.cells #[.string ⟨nm.toArray⟩, .int .i64 least, .int .i64 most, .int .i64 first, .int .i64 last, .int .i64 step, .bool wb] 76)) (.cells #[.string ⟨#[]⟩, .int .i64 0, .slice none 0 0, .nilFunc] 58)
      rwa [World.size_alloc] at this
  rw [hw2]
  clear hw2 HZ HC
  refine wpIn_rangeK (gf := 39) (lb := #[]) rfl (enters_of Tryz.func39 (by kernel_rfl) rfl)
    (rules_seq (fun _ => False) w2) (Below.refl _ _) (fun k h => h.elim) (fun _ => rfl)
    (fun _ pre W => (∀ y ∈ pre, y.r.nm ≠ nm) ∧ EfI w w1 ⟨nm, least, most, first, last, step, wb⟩ (.string ⟨#[]⟩) (.int .i64 0) (.slice none 0 0) .nilFunc W)
    (fun c _ pre W => c = .exit 0 ∧ ∃ pre0 x, pre = pre0 ++ [x] ∧ (∀ y ∈ pre0, y.r.nm ≠ nm) ∧ x.r.nm = nm ∧ EfI w w1 ⟨nm, least, most, first, last, step, wb⟩ (.string ⟨x.r.nm.toArray⟩) (.int .i64 x.k) (numsV x.na x.r.ids.length) (.func (.func x.r.fn) #[] #[]) W ∧ NumsIn W x.na x.r.ids ∧ ∀ g, x.na = some g → g ≠ w2.heap.size + 1) ?hI ?hIx ?hT ⟨by simp, hF0⟩
    (fun _ => RlVar (w2.heap.size + 2) (fun Bx x => { tmps := #[.slice a n cap, undef, .pointer (some ⟨w.heap.size, 0, none⟩), .bool false, .pointer (some ⟨w1.heap.size, 0, none⟩), .bool true, .pointer (some ⟨w1.heap.size + 1, 0, none⟩), .pointer (some ⟨Bx, 0, none⟩), .tuple #[.agg #[.string ⟨nm.toArray⟩, .int .i64 least, .int .i64 most, .int .i64 first, .int .i64 last, .int .i64 step, .bool wb], .bool true], .slice a n cap, .tuple #[.agg #[.string ⟨nm.toArray⟩, .int .i64 least, .int .i64 most, .int .i64 first, .int .i64 last, .int .i64 step, .bool wb], .bool true], .agg #[.string ⟨nm.toArray⟩, .int .i64 least, .int .i64 most, .int .i64 first, .int .i64 last, .int .i64 step, .bool wb], .bool true, .bool true, .bool false, undef, .func (.func 39) #[] #[], rlV x.k x.r x.na, undef, undef, undef, undef, undef, undef, undef], defers := [] }))
    (fun O x a' A C h hk => h.later (by omega) hk) ?assign ?body ?done ?stop
  case hI =>
    rintro O s A C ⟨h1, h2⟩ hk
    exact ⟨h1, h2.keep hw1 hk fun k hk' => by omega⟩
  case hIx =>
    rintro c O s A C ⟨h0, pre0, x, h1, h2, h3, h4, h5, h6⟩ hk
    exact ⟨h0, pre0, x, h1, h2, h3, h4.keep hw1 hk fun k hk' => by omega, h5.keep hk h6, h6⟩
  case hT =>
    rintro x A C hl h hk
    exact NumsIn.keep h hk (NumsIn.ne h hl)
  case assign =>
    intro O pre x A K hO hA ⟨hp, hF⟩ hK
    have HK := Lib.hid hK
    have HF := Lib.hid hF
    clear hK hF
    unfold encRe
    obtain ⟨k, ⟨rn, ids, fn⟩, na⟩ := x
    simp only [rlV, numsV] at HK ⊢
    generalize hna : (na.map fun b => (⟨b, 0, none⟩ : Addr)) = an at HK ⊢
    gi_wp2
    refine HK.out _ _ ((Keeps.refl _ _).alloc _) ⟨hp, HF.out.keep hw1 ((Keeps.refl (fun _ => True) _).alloc _) fun _ _ => trivial⟩ ⟨A.heap.size, by omega, ?_, ?_⟩
    · unfold RlBox
      rw [show (rlL k ⟨rn, ids, fn⟩ na).toArray = #[.string ⟨rn.toArray⟩, .int .i64 k, .slice an ids.length ids.length, .func (.func fn) #[] #[]] by simp [rlL, numsV, hna]]
      exact World.alloc_heap_new A _
    · simp only [hna]
  case body =>
    rintro O pre x a' A hO hA hr ⟨hp, hF⟩ ⟨Bx, hBx, hcx, rfl⟩ hlen hT
    obtain ⟨k, ⟨rn, ids, fn⟩, na⟩ := x
    obtain ⟨c0, c1, c2, c3⟩ := hcx.at
    obtain ⟨g0, -⟩ := hF.2.1.at
    have hBl := hcx.lt
    simp only [Nat.zero_add] at c0 c1 c2 c3 g0
    have HF := Lib.hid hF
    have HP := Lib.hid hp
    have HT : Hid (NumsIn A na ids) := Lib.hid hT
    have HNL := Lib.hid (NumsIn.ne hT hr)
    have HN4 := Lib.hid (NumsIn.ne4 hT hF.2.2.1)
    obtain ⟨z0, z1, z2, z3, z4, z5, z6, z7⟩ := hF.2.2.1.cells
    simp only [rlV]
    clear hF hp hT hcx
    by_cases heq : rn = nm
    · obtain rfl := heq.symm
      simp only [numsV] at c2
      obtain ⟨an, hna⟩ : ∃ an, (na.map fun b => (⟨b, 0, none⟩ : Addr)) = an := ⟨_, rfl⟩
      rw [hna] at c2
      have HNA := Lib.hid hna
      clear hna
      gi_wp2
      show ownPostT _ O _ _ _ A (.exit 0) _ (stRl A (w1.heap.size + 1) (.string ⟨nm.toArray⟩) (.int .i64 k) (.slice an ids.length ids.length) (.func (.func fn) #[] #[]))
      have nS : ∀ B, B < w1.heap.size + 2 → ¬ RoundS (fun _ => False) (fun _ => False) w2.heap.size O B := by
        rintro B hB (h | h | h)
        · exact h
        · exact h
        · omega
      have hk1 : Keeps (RoundS (fun _ => False) (fun _ => False) w2.heap.size O) A (stRl A (w1.heap.size + 1) (.string ⟨nm.toArray⟩) (.int .i64 k) (.slice an ids.length ids.length) (.func (.func fn) #[] #[])) := (Keeps.refl _ _).stRl (.inr (nS _ (by omega))) _ _ _ _
      have hk2 : Keeps (fun k => k ≠ w1.heap.size + 1) A (stRl A (w1.heap.size + 1) (.string ⟨nm.toArray⟩) (.int .i64 k) (.slice an ids.length ids.length) (.func (.func fn) #[] #[])) := (Keeps.refl _ _).stRl (.inr (by simp)) _ _ _ _
      obtain ⟨f1, f2, f3, f4⟩ := HF.out
      refine ⟨hk1, O, fun j hj => ⟨Nat.lt_of_lt_of_le (hO j hj).2 hk1.size, .inl hj⟩, rfl, pre, _, rfl, HP.out, rfl, ⟨hk2.heap f1 (by omega), hk2.heap f2 (by omega), ?_, f4.trans (hk2.below f4.size fun k hk => by omega)⟩, HT.out.keep hk2 HN4.out, HNL.out⟩
      simp only [numsV, HNA.out]
      exact f3.store _ _ _ _
    · have hne : ¬ nm = rn := fun e => heq e.symm
      have hb1 : (rn == nm) = false := by simpa using heq
      gi_wp2
      refine ⟨(Keeps.refl _ _), O, fun j hj => ⟨(hO j hj).2, .inl hj⟩, ?_, HF.out⟩
      intro y hy
      rcases List.mem_append.1 hy with h | h
      · exact HP.out y h
      · rw [List.mem_singleton.1 h]; exact heq
  case done =>
    rintro O D xs A hD hDs hO hS ⟨hp, hF⟩ hDd
    have h1 : Ru.find nm = none := Ru.find_miss fun y hy => by
      rw [← hS] at hy
      obtain ⟨x, hx, rfl⟩ := List.mem_map.1 hy
      exact hp x hx
    rw [HRK.out] at h1
    cases h1
  case stop =>
    rintro O D c pre A hD hDs hO hSp ⟨rfl, pre0, x, rfl, hp, hx, hF, hN, hne⟩ hDd
    obtain ⟨k, ⟨rn, ids, fn⟩, na⟩ := x
    have hfind : Ru.find nm = some ⟨k, ⟨rn, ids, fn⟩⟩ := Ru.find_hit (pre := pre0.map Re.rk) (by simpa [Re.rk] using hSp) (fun y hy => by obtain ⟨z, hz, rfl⟩ := List.mem_map.1 hy; exact hp z hz) hx
    have HFD := Lib.hid hfind
    have HF := Lib.hid hF
    have HN : Hid (NumsIn A na ids) := Lib.hid hN
    have HDD := Lib.hid hDd
    simp only [numsV] at hF
    obtain ⟨an, hna⟩ : ∃ an, (na.map fun b => (⟨b, 0, none⟩ : Addr)) = an := ⟨_, rfl⟩
    rw [hna] at hF
    have HNA := Lib.hid hna
    obtain ⟨z0, z1, z2, z3, z4, z5, z6, z7⟩ := hF.2.2.1.cells
    obtain ⟨y0, y1, y2, y3, y4, y5, y6, y7⟩ := hF.1.cells
    clear hF hN hDd hp hx hfind hna
    refine wpIn_exit ?_
    simp only [Exit.inBlock, Exit.then, if_true]
    gi_wp2
    have hkA : Keeps (fun k => k ≠ w.heap.size) A (stRl A w.heap.size (.string ⟨rn.toArray⟩) (.int .i64 k) (.slice an ids.length ids.length) (.func (.func fn) #[] #[])) := (Keeps.refl _ _).stRl (.inr (by simp)) _ _ _ _
    have e3 : (stRl A w.heap.size (.string ⟨rn.toArray⟩) (.int .i64 k) (.slice an ids.length ids.length) (.func (.func fn) #[] #[])).heap[D]? = some (.deferred (some [])) := hkA.heap HDD.out (by omega)
    refine ⟨by simp, .inl ⟨_, _, rfl, run_takeDeferred e3, ?_⟩⟩
    have hkB : Keeps (fun k => k ≠ D) _ ((stRl A w.heap.size (.string ⟨rn.toArray⟩) (.int .i64 k) (.slice an ids.length ids.length) (.func (.func fn) #[] #[])).putObj D (.deferred none)) := (Keeps.refl _ _).putObj (fun h => h rfl) (.deferred none)
    have hbA : Below w.heap.size w _ := HF.out.2.2.2.trans (hkA.below HF.out.2.2.2.size fun k hk => by omega)
    have hbB := hbA.trans (hkB.below hbA.size fun k hk => by omega)
    have h4 : RlBox ((stRl A w.heap.size (.string ⟨rn.toArray⟩) (.int .i64 k) (.slice an ids.length ids.length) (.func (.func fn) #[] #[])).putObj D (.deferred none)) w.heap.size k ⟨rn, ids, fn⟩ na := by
      have h5 := hkB.heap (HF.out.1.store (.string ⟨rn.toArray⟩) (.int .i64 k) (.slice an ids.length ids.length) (.func (.func fn) #[] #[])) (by omega)
      unfold RlBox
      rw [show (rlL k ⟨rn, ids, fn⟩ na).toArray = #[.string ⟨rn.toArray⟩, .int .i64 k, .slice an ids.length ids.length, .func (.func fn) #[] #[]] by simp [rlL, numsV, HNA.out]]
      exact h5
    refine ⟨_, results_cellt rfl rfl (loadVarRl _ _ _ _ _ h4.at), hbB, _, na, HFD.out, rfl, ?_⟩
    have hn4 := NumsIn.ne4 HN.out HF.out.1
    refine (HN.out.keep hkA hn4).keep hkB fun g hg e => ?_
    subst e
    have := HN.out
    unfold NumsIn at this
    rw [hg] at this
    simp only at this
    rw [HDD.out] at this
    cases this

theorem ecFind_any (a : Option Addr) (cap : Nat) (ws : List (List UInt8)) (w : World) (hW : Wds w a cap ws) : Calls Tryz.prog 17 #[.slice a ws.length cap] w (EcFindOut ws w) := by
  suffices h : CallsIn Fence.wide 0 Tryz.prog 17 #[.slice a ws.length cap] w (EcFindOut ws w) from callsIn_wide.1 h
  unfold EcFindOut
  cases hc : Cm.checkS ws with
  | none => exact ecFind_none a cap ws w hW hc
  | some s => exact ecFind_some a cap ws s w hW hc
end Go.Proofs.YtokcbcjonbjkgaaGreatDoor
