/- The contract of cmd.Find. -/
import Derived.Test.YtokcbcjonbjkgaaGreatDoorBytes
import Derived.Test.YtokcbcjonbjkgaaGreatDoorCmTable
import Derived.Scope
import Derived.Test.YtokcbcjonbjkgaaGreatDoorQuietRound
import Derived.RegionIn
namespace Go.Proofs.YtokcbcjonbjkgaaGreatDoor
open Go.RowKit Go.Shelf
attribute [local go_sem] Oper.semAt_some

theorem wpIn_scope_wide {P : Program} {c : Code} {Q : Exit → Act → World → Prop} {a : Act} {w : World} (h : c.wpIn Fence.wide 0 P (Exit.noGoto Q) a w) : (Code.scope c).wpIn Fence.wide 0 P Q a w :=
  wpIn_wide.2 (wp_scope_straight (wpIn_wide.1 h))

/-- no row. -/
def zeroSp : Cm.Sp := ⟨[], 0, 0, 0, 0, 0, false⟩

/-- what Find tells. -/
def findV (n : List UInt8) : Value := match Cm.findS n with | none => .tuple #[spV zeroSp, .bool false] | some s => .tuple #[spV s, .bool true]

/-- a loop's variable that is a row, in a block of its own. -/
def SpVar (b : Nat) (mk : Nat → Cm.Sp → Act) (O : Nat → Prop) (x : Cm.Sp) (a' : Act) (A : World) : Prop :=
  ∃ Bx, b ≤ Bx ∧ ¬ O Bx ∧ SpBox A Bx x ∧ a' = mk Bx x

theorem SpVar.later {b n : Nat} {mk : Nat → Cm.Sp → Act} {O : Nat → Prop} {x : Cm.Sp} {a' : Act} {A C : World} (h : SpVar b mk O x a' A) (hn : n < b) (hk : Keeps (fun k => k ≠ n) A C) : SpVar b mk O x a' C := by
  obtain ⟨Bx, h1, h2, h3, h4⟩ := h
  exact ⟨Bx, h1, h2, hk.heap h3 (by omega), h4⟩

/-- a row is stored into a row's block. -/
def stSp (w : World) (B : Nat) (t : Cm.Sp) : World :=
  ((((((w.setCell ⟨B, 0, none⟩ (.string ⟨t.nm.toArray⟩)).setCell ⟨B, 1, none⟩ (.int .i64 t.least)).setCell ⟨B, 2, none⟩ (.int .i64 t.most)).setCell ⟨B, 3, none⟩ (.int .i64 t.first)).setCell ⟨B, 4, none⟩ (.int .i64 t.last)).setCell ⟨B, 5, none⟩ (.int .i64 t.step)).setCell ⟨B, 6, none⟩ (.bool t.wr)

theorem SpBox.store {w : World} {B : Nat} {s : Cm.Sp} (h : SpBox w B s) (t : Cm.Sp) : SpBox (stSp w B t) B t := by
  unfold SpBox at h ⊢
  simp [stSp, World.setCell, Array.getElem?_modify, h, spL]

theorem SpBox.drew {w : World} {B : Nat} {s : Cm.Sp} (h : SpBox w B s) : SpBox w.drew B s := by unfold SpBox at h ⊢; exact h

theorem Keeps.stSp {S : Nat → Prop} {A W : World} (h : Keeps S A W) {B : Nat} (hB : A.heap.size ≤ B ∨ ¬ S B) (t : Cm.Sp) : Keeps S A (stSp W B t) :=
  ((((((h.setCell (p := ⟨B, 0, none⟩) hB _).setCell (p := ⟨B, 1, none⟩) hB _).setCell (p := ⟨B, 2, none⟩) hB _).setCell (p := ⟨B, 3, none⟩) hB _).setCell (p := ⟨B, 4, none⟩) hB _).setCell (p := ⟨B, 5, none⟩) hB _).setCell (p := ⟨B, 6, none⟩) hB _

/-- Find's own variables: the name, the result, the row found, whether one is. -/
def FInv (w : World) (n : List UInt8) (x : Cm.Sp) (ok : Bool) (W : World) : Prop :=
  Boxed W w.heap.size 9 (.string ⟨n.toArray⟩) ∧ SpBox W (w.heap.size + 1) zeroSp ∧ SpBox W (w.heap.size + 2) x ∧ Boxed W (w.heap.size + 3) 4 (.bool ok) ∧ Below w.heap.size w W

theorem FInv.keep {w W W' : World} {n : List UInt8} {x : Cm.Sp} {ok : Bool} (h : FInv w n x ok W) {S : Nat → Prop} (hk : Keeps S W W') (hS : ∀ k, k < w.heap.size + 4 → S k) : FInv w n x ok W' := by
  obtain ⟨h1, h2, h3, h4, h5⟩ := h
  exact ⟨hk.heap h1 (hS _ (by omega)), hk.heap h2 (hS _ (by omega)), hk.heap h3 (hS _ (by omega)), hk.heap h4 (hS _ (by omega)), h5.trans (hk.below h5.size fun k hk' => hS k (by omega))⟩

theorem hit_len {n : List UInt8} {x : Cm.Sp} (h : x.nm.length ≠ n.length) : Cm.hit n x = false := by
  unfold Cm.hit
  rw [beq_eq_false_iff_ne]
  intro e
  rw [e] at h
  simp [Cm.upS] at h
theorem hit_at {n : List UInt8} {x : Cm.Sp} {k : Nat} (hk : k < n.length) (h : Cm.cap (n.getD k 0) ≠ x.nm.getD k 0) : Cm.hit n x = false := by
  unfold Cm.hit
  rw [beq_eq_false_iff_ne]
  intro e
  rw [e] at h
  simp [Cm.upS, List.getD, hk] at h
theorem hit_all {n : List UInt8} {x : Cm.Sp} (hl : x.nm.length = n.length) (h : ∀ k, k < n.length → Cm.cap (n.getD k 0) = x.nm.getD k 0) : Cm.hit n x = true := by
  unfold Cm.hit
  rw [beq_iff_eq]
  apply List.ext_getElem
  · simp [Cm.upS, hl]
  · intro i h1 h2
    have := h i (by omega)
    rw [Cm.getD_eq (by omega), Cm.getD_eq h1] at this
    simp [Cm.upS, this]

/-- what a world is behind Find. -/
theorem find_end {w w2 A : World} {n : List UInt8} {x : Cm.Sp} {ok : Bool} {D : Nat} (hF : FInv w n x ok A) (hD : w2.heap.size ≤ D) (hsb : w.heap.size + 4 ≤ w2.heap.size) (hDd : A.heap[D]? = some (.deferred (some []))) {r : Option Cm.Sp} (hr : Cm.findS n = r) :
    ∀ W, Keeps (fun k => k ≠ w.heap.size + 1) A W → SpBox W (w.heap.size + 1) x → Cm.findS n = r ∧ Below w.heap.size w W ∧ W.heap[D]? = some (.deferred (some [])) ∧ ∀ W', Keeps (fun k => k ≠ D) W W' → Below w.heap.size w W' ∧ SpAt W' (w.heap.size + 1) 0 x := by
  intro W hk hx
  have hb : Below w.heap.size w W := hF.2.2.2.2.trans (hk.below hF.2.2.2.2.size fun k hk => by omega)
  refine ⟨hr, hb, hk.heap hDd (by omega), fun W' hk' => ⟨hb.trans (hk'.below hb.size fun k hk => by omega), ?_⟩⟩
  have hx' : SpBox W' (w.heap.size + 1) x := hk'.heap hx (by omega)
  exact hx'.at

set_option maxRecDepth 100000 in
set_option maxHeartbeats 4000000 in
theorem cmFind_any (n : List UInt8) (w : World) (hn : n.length ≤ 9223372036854775807) :
    CallsIn Fence.wide 0 Tryz.prog 36 #[.string ⟨n.toArray⟩] w fun e W' => e = .returned (findV n) ∧ Below w.heap.size w W' := by
  refine callsIn_of_wp_marks Tryz.func36 rfl trivial ?_ rfl
  simp only [Tryz.ntmps36, List.size_toArray, List.length_cons, List.length_nil, Nat.reduceAdd, Nat.reduceSub, Array.replicate_succ, Array.replicate_zero, List.push_toArray, List.append_toArray, List.nil_append, List.cons_append]
  gi_wp2
  refine wpIn_scope_wide ?_
  gi_wp2
  refine wpIn_label ?_
  simp only [Exit.then]
  gi_wp2_with (refine ⟨trivial, rfl, ?_⟩; refine (commands_any _).mono ?_; rintro e w1 ⟨rfl, rfl⟩)
  obtain ⟨w2, hw2⟩ : ∃ w2, (((w.alloc (.cells #[.string ⟨n.toArray⟩] 9)).alloc (.cells (spL zeroSp).toArray 76)).alloc (.cells (spL zeroSp).toArray 76)).alloc (.cells #[.bool false] 4) = w2 := ⟨_, rfl⟩
  have hs2 : w2.heap.size = w.heap.size + 4 := by rw [← hw2]; simp
  have hF0 : FInv w n zeroSp false w2 := by
    rw [← hw2]
    have k1 := Boxed.new w 9 (.string ⟨n.toArray⟩)
    have k2 : SpBox ((w.alloc (.cells #[.string ⟨n.toArray⟩] 9)).alloc (.cells (spL zeroSp).toArray 76)) (w.heap.size + 1) zeroSp := by
      have := World.alloc_heap_new (w.alloc (.cells #[.string ⟨n.toArray⟩] 9)) (.cells (spL zeroSp).toArray 76)
      rwa [World.size_alloc] at this
    have k3 : SpBox (((w.alloc (.cells #[.string ⟨n.toArray⟩] 9)).alloc (.cells (spL zeroSp).toArray 76)).alloc (.cells (spL zeroSp).toArray 76)) (w.heap.size + 2) zeroSp := by
      have := World.alloc_heap_new ((w.alloc (.cells #[.string ⟨n.toArray⟩] 9)).alloc (.cells (spL zeroSp).toArray 76)) (.cells (spL zeroSp).toArray 76)
      rwa [World.size_alloc, World.size_alloc] at this
    have k4 := Boxed.new (((w.alloc (.cells #[.string ⟨n.toArray⟩] 9)).alloc (.cells (spL zeroSp).toArray 76)).alloc (.cells (spL zeroSp).toArray 76)) 4 (.bool false)
    rw [World.size_alloc, World.size_alloc, World.size_alloc] at k4
    have kk : ∀ (A : World) (o : Obj), Keeps (fun _ => True) A (A.alloc o) := fun A o => (Keeps.refl _ A).alloc o
    refine ⟨((k1.alloc _).alloc _).alloc _, ((kk _ _).trans (kk _ _)).heap k2 trivial, (kk _ _).heap k3 trivial, k4, ?_⟩
    exact ((((Below.refl _ w).alloc (Nat.le_refl _) _).alloc (by simp) _).alloc (by simp; omega) _).alloc (by simp; omega) _
  have hw2' : (((w.alloc (.cells #[.string ⟨n.toArray⟩] 9)).alloc (.cells #[.string ⟨#[]⟩, .int .i64 0, .int .i64 0, .int .i64 0, .int .i64 0, .int .i64 0, .bool false] 76)).alloc (.cells #[.string ⟨#[]⟩, .int .i64 0, .int .i64 0, .int .i64 0, .int .i64 0, .int .i64 0, .bool false] 76)).alloc (.cells #[.bool false] 4) = w2 := hw2
  rw [hw2']
  have hsb : w.heap.size + 4 ≤ w2.heap.size := by omega
  clear hw2 hw2' hs2
  refine wpIn_rangeT (gf := 62) (lb := #[]) rfl (enters_of Tryz.func62 (by kernel_rfl) rfl)
    (table_seq (fun _ => False) (fun _ => False) w2) (Below.refl _ _) (fun k h => h.elim) (fun k h => h.elim) (fun _ => rfl)
    (fun _ pre W => (∀ s ∈ pre, Cm.hit n s = false) ∧ FInv w n zeroSp false W) (fun c _ pre W => c = .exit 0 ∧ ∃ pre0 x, pre = pre0 ++ [x] ∧ (∀ s ∈ pre0, Cm.hit n s = false) ∧ Cm.hit n x = true ∧ FInv w n x true W) ?hI ?hIx (fun h => by cases h) ⟨by simp, hF0⟩
    (SpVar (w2.heap.size + 2) (fun Bx x => { tmps := #[.string ⟨n.toArray⟩, .pointer (some ⟨w.heap.size, 0, none⟩), .pointer (some ⟨w.heap.size + 1, 0, none⟩), .bool false, .pointer (some ⟨w.heap.size + 1 + 1, 0, none⟩), .pointer (some ⟨w.heap.size + 1 + 1 + 1, 0, none⟩), .pointer (some ⟨Bx, 0, none⟩), undef, .func (.func 62) #[] #[], spV x, undef, undef, undef, undef, undef, undef, undef, undef, undef, undef, undef, undef, undef, undef, undef, undef, undef, undef, undef, undef, undef, undef, undef, undef], defers := [] }))
    (fun O x a' A C h hk => h.later (by omega) hk) ?assign ?body ?done ?stop
  case hI =>
    rintro O s A C ⟨h1, h2⟩ hk
    exact ⟨h1, h2.keep hk fun k hk' => ⟨id, .inl (by omega)⟩⟩
  case hIx =>
    rintro c O s A C ⟨h0, pre0, x, h1, h2, h3, h4⟩ hk
    exact ⟨h0, pre0, x, h1, h2, h3, h4.keep hk fun k hk' => ⟨id, .inl (by omega)⟩⟩
  case assign =>
    intro O pre x A K hO hA ⟨hp, hF⟩ hK
    have HK := Lib.hid hK
    have HF := Lib.hid hF
    clear hK hF
    unfold encSp
    obtain ⟨nm, least, most, first, last, step, wr⟩ := x
    simp only [spV]
    gi_wp2
    exact HK.out _ _ ((Keeps.refl _ _).alloc _) ⟨hp, HF.out.keep ((Keeps.refl (fun _ => True) _).alloc _) fun _ _ => trivial⟩ ⟨A.heap.size, by omega, fun h => by have := (hO _ h).2; omega, World.alloc_heap_new A _, rfl⟩
  case body =>
    rintro O pre x a' A hO hA ⟨r, hr⟩ ⟨hp, hF⟩ ⟨Bx, hBx, hnO, hcx, rfl⟩ hlen
    have hb1 := hF.1.cell
    have hlt1 : w.heap.size < A.heap.size := hF.1.lt
    obtain ⟨c0, c1, c2, c3, c4, c5, c6⟩ := hcx.at
    have hBxlt := hcx.lt
    have hnmx : (Cm.hit n x = true → x.nm.length = n.length) := fun h => by
      by_cases hh : x.nm.length = n.length
      · exact hh
      · rw [hit_len hh] at h; cases h
    have HX := Lib.hid hcx
    have HF := Lib.hid hF
    have HP := Lib.hid hp
    clear hF hp hcx hnmx
    obtain ⟨nm, least, most, first, last, step, wb⟩ := x
    simp only [spV] at *
    simp only [Nat.zero_add] at c0 c1 c2 c3 c4 c5 c6
    have hmiss : Cm.hit n ⟨nm, least, most, first, last, step, wb⟩ = false → ∀ (aa : Act) (wr' : World), Keeps (fun _ => True) A wr' → ownPostT (RoundS (fun _ => False) (fun _ => False) w2.heap.size O) O (fun _ pre W => (∀ s ∈ pre, Cm.hit n s = false) ∧ FInv w n zeroSp false W) (fun c _ pre W => c = .exit 0 ∧ ∃ pre0 x, pre = pre0 ++ [x] ∧ (∀ s ∈ pre0, Cm.hit n s = false) ∧ Cm.hit n x = true ∧ FInv w n x true W) (pre ++ [⟨nm, least, most, first, last, step, wb⟩]) A .normal aa wr' := by
      intro hm aa wr' hk
      refine ⟨hk.mono fun _ _ _ => trivial, O, ⟨fun j hj => ⟨Nat.lt_of_lt_of_le (hO j hj).2 hk.size, .inl hj⟩, ?_, HF.out.keep hk fun _ _ => trivial⟩⟩
      intro s hs
      rcases List.mem_append.1 hs with h | h
      · exact HP.out s h
      · rw [List.mem_singleton.1 h]; exact hm
    have HM := Lib.hid hmiss
    clear hmiss
    by_cases hl : nm.length = n.length
    · have hle : ((nm.length : Int) == (n.length : Int)) = true := by rw [beq_iff_eq]; omega
      have hne : ((nm.length : Int) != (n.length : Int)) = false := by simp [hl]
      have HL := Lib.hid hl
      have hnb : (n.length : Int) ≤ 9223372036854775807 := by omega
      clear hl
      gi_wp2
      gi_loopw [18] (fun i wr => ∃ k : Nat, k ≤ n.length ∧ i = .int .i64 k ∧ Hid (∀ j, j < k → Cm.cap (n.getD j 0) = nm.getD j 0) ∧ Hid (Keeps (fun _ => True) A wr)) (fun i _ => n.length - (intOf i).toNat)
      case atStart => exact ⟨0, Nat.zero_le _, rfl, Lib.hid (fun j h => by omega), Lib.hid (Keeps.refl _ _)⟩
      case round =>
        obtain ⟨k, hk, rfl, HJ, HK⟩ := hrel
        have d1 := (HK.out.cell (p := ⟨w.heap.size, 0, none⟩) hlt1 trivial).trans hb1
        have d0 := (HK.out.cell (p := ⟨Bx, 0, none⟩) hBxlt trivial).trans c0
        by_cases hlt : k < n.length
        · have i1 := idx_at n k hlt
          have i2 := idx_at nm k (by have := HL.out; omega)
          have hcap := fun W => in_round (l := w2.heap.size + 1) (capital_any (n.getD k 0) W)
          by_cases heq : Cm.cap (n.getD k 0) = nm.getD k 0
          · have HJ2 : Hid (∀ j, j < k + 1 → Cm.cap (n.getD j 0) = nm.getD j 0) := Lib.hid fun j hj => by
              rcases Nat.lt_or_ge j k with h | h
              · exact HJ.out j h
              · obtain rfl : j = k := by omega
                exact heq
            rw [heq] at hcap
            have HCp := Lib.hid hcap
            clear heq hcap
            generalize n.getD k 0 = cN at i1 HCp
            generalize nm.getD k 0 = cM at i2 HCp
            gi_wp2
            refine wpIn_region_quietR_lit rfl (by kernel_rfl) (by kernel_rfl) (by kernel_rfl) ?_
            repeat (
              refine wpQuietIn_step (fun _ _ _ _ => trivial) (fun K hK => ?_)
              go_simp
              first
                | (refine hK _ ?_; clear hK K)
                | (apply Exists.intro; refine ⟨fun _ => ⟨rfl, CallsIn.quiet_of_same ((HCp.out _).mono fun e w' ⟨he, hw⟩ => ⟨he, hw.symm⟩)⟩, hK _ ?_⟩; clear hK K))
            refine wpQuietIn_nil ?_
            intro _ hw'
            obtain ⟨nq, hw''⟩ := hw'
            subst hw''
            gi_wp2
            go_roundw
            case rel => exact ⟨k + 1, by omega, by go_num, HJ2, Lib.hid (HK.out.trans ⟨rfl, rfl, rfl, Nat.le_refl _, fun _ _ _ => rfl⟩)⟩
            case measure => simp [intOf]; omega
          · have HH := Lib.hid (hit_at (n := n) (x := ⟨nm, least, most, first, last, step, wb⟩) hlt heq)
            have hne3 : (((Cm.cap (n.getD k 0)).toNat : Int) != ((nm.getD k 0).toNat : Int)) = true := by
              rw [bne_iff_ne]
              intro h
              exact heq (UInt8.toNat_inj.1 (by omega))
            have HCp := Lib.hid hcap
            clear heq hcap
            generalize Cm.cap (n.getD k 0) = cC at HCp hne3
            generalize n.getD k 0 = cN at i1 HCp
            generalize nm.getD k 0 = cM at i2 hne3
            gi_wp2
            refine wpIn_region_quietR_lit rfl (by kernel_rfl) (by kernel_rfl) (by kernel_rfl) ?_
            repeat (
              refine wpQuietIn_step (fun _ _ _ _ => trivial) (fun K hK => ?_)
              go_simp
              first
                | (refine hK _ ?_; clear hK K)
                | (apply Exists.intro; refine ⟨fun _ => ⟨rfl, CallsIn.quiet_of_same ((HCp.out _).mono fun e w' ⟨he, hw⟩ => ⟨he, hw.symm⟩)⟩, hK _ ?_⟩; clear hK K))
            refine wpQuietIn_nil ?_
            intro _ hw'
            obtain ⟨nq, hw''⟩ := hw'
            subst hw''
            gi_wp2
            exact HM.out HH.out _ _ (HK.out.trans ⟨rfl, rfl, rfl, Nat.le_refl _, fun _ _ _ => rfl⟩)
        · obtain rfl : k = n.length := by omega
          obtain ⟨e0, e1, e2, e3, e4, e5, e6⟩ := HX.out.at.keep (w' := wr) (fun j => HK.out.cell (p := ⟨Bx, j, none⟩) hBxlt trivial)
          simp only [Nat.zero_add] at e0 e1 e2 e3 e4 e5 e6
          have HH := Lib.hid (hit_all (n := n) (x := ⟨nm, least, most, first, last, step, wb⟩) HL.out HJ.out)
          have hFw := HF.out.keep HK.out fun _ _ => trivial
          obtain ⟨f1, f2, f3, f4, f5⟩ := hFw
          have z3 : SpBox wr (w.heap.size + 1 + 1) zeroSp := f3
          have z4 : Boxed wr (w.heap.size + 1 + 1 + 1) 4 (.bool false) := f4
          have HZ3 := Lib.hid z3
          have HZ4 := Lib.hid z4
          have HF1 := Lib.hid (And.intro f1 (And.intro f2 f5))
          obtain ⟨g0, g1, g2, g3, g4, g5, g6⟩ := z3.at
          have y0 := z3.free 0 (by omega)
          have y1 := z3.free 1 (by omega)
          have y2 := z3.free 2 (by omega)
          have y3 := z3.free 3 (by omega)
          have y4 := z3.free 4 (by omega)
          have y5 := z3.free 5 (by omega)
          have y6 := z3.free 6 (by omega)
          have x4 := z4.cell
          have x5 := z4.frozen
          simp only [Nat.zero_add] at g0 g1 g2 g3 g4 g5 g6
          clear f1 f2 f3 f4 f5 z3 z4
          gi_wp2
          show ownPostT _ O _ _ _ A (.exit 0) _ ((stSp wr (w.heap.size + 1 + 1) ⟨nm, least, most, first, last, step, wb⟩).setCell ⟨w.heap.size + 1 + 1 + 1, 0, none⟩ (.bool true))
          have nS : ∀ B, B < w.heap.size + 4 → ¬ RoundS (fun _ => False) (fun _ => False) w2.heap.size O B := by
            rintro B hB (h | h | h)
            · exact h
            · exact h
            · omega
          have hk1 : Keeps (RoundS (fun _ => False) (fun _ => False) w2.heap.size O) A ((stSp wr (w.heap.size + 1 + 1) ⟨nm, least, most, first, last, step, wb⟩).setCell ⟨w.heap.size + 1 + 1 + 1, 0, none⟩ (.bool true)) :=
            ((HK.out.mono fun _ _ _ => trivial).stSp (.inr (nS _ (by omega))) _).setCell (p := ⟨w.heap.size + 1 + 1 + 1, 0, none⟩) (.inr (nS _ (by simp))) _
          have hk2 : Keeps (fun k => k ≠ w.heap.size + 1 + 1 + 1) (stSp wr (w.heap.size + 1 + 1) ⟨nm, least, most, first, last, step, wb⟩) ((stSp wr (w.heap.size + 1 + 1) ⟨nm, least, most, first, last, step, wb⟩).setCell ⟨w.heap.size + 1 + 1 + 1, 0, none⟩ (.bool true)) := (Keeps.refl _ _).setCell (.inr (by simp)) _
          have hk3 : Keeps (fun k => k ≠ w.heap.size + 1 + 1) wr (stSp wr (w.heap.size + 1 + 1) ⟨nm, least, most, first, last, step, wb⟩) := (Keeps.refl _ _).stSp (.inr (by simp)) _
          obtain ⟨f1, f2, f5⟩ := HF1.out
          refine ⟨hk1, O, ⟨fun j hj => ⟨Nat.lt_of_lt_of_le (hO j hj).2 hk1.size, .inl hj⟩, rfl, pre, _, rfl, HP.out, HH.out, hk2.heap (hk3.heap f1 (by omega)) (by omega), hk2.heap (hk3.heap f2 (by omega)) (by omega), hk2.heap (HZ3.out.store _) (by omega), Boxed.set _ (hk3.heap HZ4.out (by omega)), ?_⟩⟩
          exact (f5.trans (hk3.below f5.size fun k hk => by omega)).trans (hk2.below (Nat.le_trans f5.size hk3.size) fun k hk => by omega)
    · have hne : ((nm.length : Int) != (n.length : Int)) = true := by rw [bne_iff_ne]; omega
      have hne2 : ((nm.length : Int) == (n.length : Int)) = false := by rw [beq_eq_false_iff_ne]; omega
      have HH := Lib.hid (hit_len (n := n) (x := ⟨nm, least, most, first, last, step, wb⟩) hl)
      clear hl
      gi_wp2
      exact HM.out HH.out _ _ (Keeps.refl _ _)
  case done =>
    rintro O D xs A hD hDs hO - rfl ⟨hp, hF⟩ hDd
    have HE := Lib.hid (find_end hF hD hsb hDd (Cm.find_done hp))
    have HF := Lib.hid hF
    clear hp
    obtain ⟨f1, f2, f3, f4, f5⟩ := hF
    have z3 : SpBox A (w.heap.size + 1 + 1) zeroSp := f3
    have z4 : Boxed A (w.heap.size + 1 + 1 + 1) 4 (.bool false) := f4
    obtain ⟨g0, g1, g2, g3, g4, g5, g6⟩ := z3.at
    obtain ⟨k0, k1, k2, k3, k4, k5, k6⟩ := f2.at
    have y0 := f2.free 0 (by omega)
    have y1 := f2.free 1 (by omega)
    have y2 := f2.free 2 (by omega)
    have y3 := f2.free 3 (by omega)
    have y4 := f2.free 4 (by omega)
    have y5 := f2.free 5 (by omega)
    have y6 := f2.free 6 (by omega)
    have x4 := z4.cell
    simp only [Nat.zero_add, zeroSp] at g0 g1 g2 g3 g4 g5 g6 k0 k1 k2 k3 k4 k5 k6
    clear f1 f2 f3 f4 f5 z3 z4
    simp only [Exit.inBlock, Exit.then]
    gi_wp2
    gi_region
    gi_wp2
    rw [Exit.noGoto_ret]
    obtain ⟨e1, e2, e3, e4⟩ := HE.out (stSp A (w.heap.size + 1) zeroSp).drew ((Keeps.refl _ _).stSp (.inr (by simp)) _).drew (HF.out.2.1.store zeroSp).drew
    refine ⟨by simp, .inl ⟨_, _, rfl, run_takeDeferred e3, ?_⟩⟩
    obtain ⟨e5, e6⟩ := e4 _ ((Keeps.refl _ _).putObj (fun h => h rfl) (.deferred none))
    exact ⟨_, results_cellt rfl rfl (loadVar26 _ _ _ e6), by simp only [findV, e1]; rfl, e5⟩
  case stop =>
    rintro O D c pre A hD hDs hO - hSp ⟨rfl, pre0, x, rfl, hp, hx, hF⟩ hDd
    have HE := Lib.hid (find_end hF hD hsb hDd (Cm.find_stop hSp hp hx))
    have HF := Lib.hid hF
    clear hp hx hSp
    obtain ⟨f1, f2, f3, f4, f5⟩ := hF
    obtain ⟨nm, least, most, first, last, step, wb⟩ := x
    have z3 : SpBox A (w.heap.size + 1 + 1) ⟨nm, least, most, first, last, step, wb⟩ := f3
    have z4 : Boxed A (w.heap.size + 1 + 1 + 1) 4 (.bool true) := f4
    obtain ⟨g0, g1, g2, g3, g4, g5, g6⟩ := z3.at
    obtain ⟨k0, k1, k2, k3, k4, k5, k6⟩ := f2.at
    have y0 := f2.free 0 (by omega)
    have y1 := f2.free 1 (by omega)
    have y2 := f2.free 2 (by omega)
    have y3 := f2.free 3 (by omega)
    have y4 := f2.free 4 (by omega)
    have y5 := f2.free 5 (by omega)
    have y6 := f2.free 6 (by omega)
    have x4 := z4.cell
    simp only [Nat.zero_add, zeroSp] at g0 g1 g2 g3 g4 g5 g6 k0 k1 k2 k3 k4 k5 k6
    clear f1 f2 f3 f4 f5 z3 z4
    refine wpIn_exit ?_
    simp only [Exit.inBlock, Exit.then, if_true]
    gi_wp2
    gi_region
    gi_wp2
    rw [Exit.noGoto_ret]
    obtain ⟨e1, e2, e3, e4⟩ := HE.out (stSp A (w.heap.size + 1) ⟨nm, least, most, first, last, step, wb⟩).drew ((Keeps.refl _ _).stSp (.inr (by simp)) _).drew (HF.out.2.1.store ⟨nm, least, most, first, last, step, wb⟩).drew
    refine ⟨by simp, .inl ⟨_, _, rfl, run_takeDeferred e3, ?_⟩⟩
    obtain ⟨e5, e6⟩ := e4 _ ((Keeps.refl _ _).putObj (fun h => h rfl) (.deferred none))
    exact ⟨_, results_cellt rfl rfl (loadVar26 _ _ _ e6), by simp only [findV, e1]; rfl, e5⟩

end Go.Proofs.YtokcbcjonbjkgaaGreatDoor
