/- The contract of Get. -/
import Derived.Test.YtbkhnnjjpelfcaaGreatDoorRpReplyAll
import Derived.Test.YtbkhnnjjpelfcaaGreatDoorRpIxOne
import Derived.StillTailTactics
namespace Go.Proofs.YtbkhnnjjpelfcaaGreatDoor
open Go.RowKit Go.Shelf
attribute [local go_sem] Oper.semAt_some
set_option linter.unusedVariables false
set_option linter.unusedSimpArgs false

/-- what Get tells. -/
def getO (bs : List UInt8) (at_ : Int) : Rp.Out Rp.R := if at_ < 0 ∨ (bs.length : Int) < at_ then .err 1 else Rp.replyD 8 (bs.drop at_.toNat)
def GOut (w : World) (n : Nat) (o : Rp.Out Rp.R) (e : Ending) (W : World) : Prop :=
  Below w.heap.size w W ∧ match o with
    | .ok r t => ∃ k s m a l cap, e = .returned (.tuple #[.agg #[.int .i64 k, .string s, .int .i64 m, .slice a l cap], .int .i64 ((n : Int) - (t.length : Int)), .int .i64 0]) ∧ Rep (fun k => w.heap.size ≤ k) W r (.agg #[.int .i64 k, .string s, .int .i64 m, .slice a l cap])
    | .err c => c ≠ 0 ∧ e = .returned (.tuple #[.agg #[.int .i64 0, .string ⟨#[]⟩, .int .i64 0, .slice none 0 0], .int .i64 0, .int .i64 c])

theorem loadVar24' (w : World) (b : Nat) {x y z u : Value} (h : w.heap[b]? = some (.cells #[x, y, z, u] 45 (0, 0))) : (loadVar 45 ⟨b, 0, none⟩).run Tryz.prog w = .ok (.agg #[x, y, z, u]) w := by
  obtain ⟨h0, h1, h2, h3⟩ := cells_four h
  exact loadVar24 w b x y z u h0 h1 h2 h3

set_option maxRecDepth 100000 in
set_option maxHeartbeats 8000000 in
theorem get_arg (bs : List UInt8) (at_ : Int) (a : Option Addr) (cap : Nat) (w : World) (hl : bs.length ≤ 9223372036854775807) (h : at_ < 0 ∨ (bs.length : Int) < at_) (a0 : -9223372036854775808 ≤ at_) (a1 : at_ ≤ 9223372036854775807) :
    Calls Tryz.prog 14 #[.slice a bs.length cap, .int .i64 at_] w (GOut w bs.length (getO bs at_)) := by
  have HR : Hid (getO bs at_ = .err 1) := Lib.hid (by unfold getO; rw [if_pos h])
  have hlI : (bs.length : Int) ≤ 9223372036854775807 := by omega
  obtain ⟨w1, hw1⟩ : ∃ w1, w.alloc (.cells #[.int .i64 0, .string ⟨#[]⟩, .int .i64 0, .slice none 0 0] 45) = w1 := ⟨_, rfl⟩
  have hx := World.alloc_heap_new w (.cells #[.int .i64 0, .string ⟨#[]⟩, .int .i64 0, .slice none 0 0] 45)
  have hb := (Below.refl w.heap.size w).alloc (Nat.le_refl _) (.cells #[.int .i64 0, .string ⟨#[]⟩, .int .i64 0, .slice none 0 0] 45)
  rw [hw1] at hx hb
  obtain ⟨b0, b1, b2, b3, f0, f1, f2, f3⟩ := cells_four' hx
  have HW1 := Lib.hid hw1
  have HB := Lib.hid hb
  have HX := Lib.hid hx
  have hcase : at_ < 0 ∨ (¬ at_ < 0 ∧ (bs.length : Int) < at_) := by omega
  clear hw1 hb hx h
  rcases hcase with h | ⟨h, h'⟩
  all_goals
    go_enter Tryz.func14, Tryz.ntmps14
    go_upto_region 1 with (fail)
    rw [show w.alloc (.cells #[.int .i64 0, .string ⟨#[]⟩, .int .i64 0, .slice none 0 0] 45) = w1 from HW1.out]
    clear HW1
    go_wp2
    refine bodyPost_ret (results_cellt2 (T := 45) (p := ⟨w.heap.size, 0, none⟩) rfl rfl (loadVar24' _ _ (heap_four HX.out (.int .i64 0) (.string ⟨#[]⟩) (.int .i64 0) (.slice none 0 0)))) rfl ?_
    rw [HR.out]
    exact ⟨((((HB.out.setCell (p := ⟨w.heap.size, 0, none⟩) (Nat.le_refl _) _).setCell (p := ⟨w.heap.size, 1, none⟩) (Nat.le_refl _) _).setCell (p := ⟨w.heap.size, 2, none⟩) (Nat.le_refl _) _).setCell (p := ⟨w.heap.size, 3, none⟩) (Nat.le_refl _) _), by decide, rfl⟩

theorem below_set4 {B : Nat} {a A : World} (h : Below B a A) {b : Nat} (hb : B ≤ b) (x y z u : Value) : Below B a (set4 A b x y z u) :=
  (((h.setCell (p := ⟨b, 0, none⟩) hb _).setCell (p := ⟨b, 1, none⟩) hb _).setCell (p := ⟨b, 2, none⟩) hb _).setCell (p := ⟨b, 3, none⟩) hb _

/-- what the last line of Get reads, and what is told of it. -/
def SG (B Rb Pb : Nat) (w : World) (r : Rp.R) (x y z u sl : Value) (W : World) : Prop :=
  B ≤ Rb ∧ B ≤ Pb ∧ Rb ≠ Pb ∧ W.heap[Rb]? = some (.cells #[x, y, z, u] 45 (0, 0)) ∧ W.heap[Pb]? = some (.cells #[sl] 71 (0, 0)) ∧ Below B w W ∧ Rep (fun k => B ≤ k ∧ k ≠ Rb) W r (.agg #[x, y, z, u])
theorem sg_cells {B Rb Pb : Nat} {w : World} {r : Rp.R} {x y z u sl : Value} {W : World} (h : SG B Rb Pb w r x y z u sl W) :
    (W.cell? ⟨Rb, 0, none⟩ = some x ∧ W.cell? ⟨Rb, 1, none⟩ = some y ∧ W.cell? ⟨Rb, 2, none⟩ = some z ∧ W.cell? ⟨Rb, 3, none⟩ = some u ∧ W.frozen? ⟨Rb, 0, none⟩ = false ∧ W.frozen? ⟨Rb, 1, none⟩ = false ∧ W.frozen? ⟨Rb, 2, none⟩ = false ∧ W.frozen? ⟨Rb, 3, none⟩ = false ∧ W.cell? ⟨Pb, 0, none⟩ = some sl) ∧ SG B Rb Pb w r x y z u sl W := by
  obtain ⟨b0, b1, b2, b3, f0, f1, f2, f3⟩ := cells_four' h.2.2.2.1
  exact ⟨⟨b0, b1, b2, b3, f0, f1, f2, f3, Boxed.cell h.2.2.2.2.1⟩, h⟩
theorem sg_same {B Rb Pb : Nat} {w : World} {r : Rp.R} {x y z u sl : Value} {W : World} (h : SG B Rb Pb w r x y z u sl W) : SG B Rb Pb w r x y z u sl (set4 W Rb x y z u) := by
  obtain ⟨h1, h2, h3, h4, h5, h6, h7⟩ := h
  have hk := keeps_set4 (T := fun i => i ≠ Rb) (Keeps.refl _ W) (b := Rb) (.inr fun h => h rfl) x y z u
  exact ⟨h1, h2, h3, heap_four h4 x y z u, hk.heap h5 (fun e => h3 e.symm), below_set4 h6 h1 x y z u, Rep.keeps (keeps_set4 (T := fun k => B ≤ k ∧ k ≠ Rb) (Keeps.refl _ W) (b := Rb) (.inr fun h => h.2 rfl) x y z u) (fun k hk _ => hk) r _ h7⟩

theorem sg_drew {B Rb Pb : Nat} {w : World} {r : Rp.R} {x y z u sl : Value} {W : World} (h : SG B Rb Pb w r x y z u sl W) : SG B Rb Pb w r x y z u sl W.drew :=
  ⟨h.1, h.2.1, h.2.2.1, h.2.2.2.1, h.2.2.2.2.1, h.2.2.2.2.2.1.drew, h.2.2.2.2.2.2.later (Below.refl _ _).drew⟩
theorem sg_store {B Rb Pb : Nat} {w : World} {r : Rp.R} {x y z u sl : Value} {W : World} (hx : x.oneCell' = true) (hy : y.oneCell' = true) (hz : z.oneCell' = true) (hu : u.oneCell' = true) (h : SG B Rb Pb w r x y z u sl W) :
    (storeVar 45 ⟨Rb, 0, none⟩ (.agg #[x, y, z, u])).run Tryz.prog W = .ok () (set4 W Rb x y z u) := by
  obtain ⟨⟨b0, b1, b2, b3, f0, f1, f2, f3, p0⟩, _⟩ := sg_cells h
  simp [storeVar, go_sem, run_store, hx, hy, hz, hu, b0, b1, b2, b3, f0, f1, f2, f3, set4]

set_option maxRecDepth 100000 in
set_option maxHeartbeats 8000000 in
theorem get_in (bs : List UInt8) (k : Nat) (a : Option Addr) (cap : Nat) (w : World) (hl : bs.length ≤ 1000000) (hk : k ≤ bs.length) (hb : Bt (fun i => i < w.heap.size) w a cap bs) (henv : Env w) :
    Calls Tryz.prog 14 #[.slice a bs.length cap, .int .i64 (k : Int)] w (GOut w bs.length (Rp.replyD 8 (bs.drop k))) := by
  have hlI : (bs.length : Int) ≤ 1000000 := by omega
  have hkI : (k : Int) ≤ (bs.length : Int) := by omega
  have hcl := hb.1
  have hcm := hb.2.1
  have hkc : (k : Int) ≤ (cap : Int) := by omega
  have hclI : (bs.length : Int) ≤ (cap : Int) := by omega
  have hcmI : (cap : Int) ≤ 9223372036854775807 := by omega
  obtain ⟨w1, hw1⟩ : ∃ w1, w.alloc (.cells #[.int .i64 0, .string ⟨#[]⟩, .int .i64 0, .slice none 0 0] 45) = w1 := ⟨_, rfl⟩
  have hx := World.alloc_heap_new w (.cells #[.int .i64 0, .string ⟨#[]⟩, .int .i64 0, .slice none 0 0] 45)
  have hb1 := (Below.refl w.heap.size w).alloc (Nat.le_refl _) (.cells #[.int .i64 0, .string ⟨#[]⟩, .int .i64 0, .slice none 0 0] 45)
  have hs1 : w1.heap.size = w.heap.size + 1 := by rw [← hw1]; simp
  rw [hw1] at hx hb1
  have hfrom := hb.from hk
  have hld : (bs.drop k).length = bs.length - k := List.length_drop
  obtain ⟨va, hva⟩ : ∃ va, (if cap = k then a else a.map fun x => x.add k) = va := ⟨_, rfl⟩
  rw [hva] at hfrom
  have hcase : (k = cap ∧ a = va) ∨ (¬ cap = k ∧ (a.map fun x => x.add k) = va) := by
    by_cases h : cap = k
    · exact .inl ⟨h.symm, by rw [← hva, if_pos h]⟩
    · exact .inr ⟨h, by rw [← hva, if_neg h]⟩
  clear hva
  have HW1 := Lib.hid hw1
  have HX := Lib.hid hx
  have HB1 := Lib.hid hb1
  have HS1 := Lib.hid hs1
  have HFR := Lib.hid hfrom
  have HLD := Lib.hid hld
  have HENV := Lib.hid henv
  clear hw1 hx hb1 hs1 hfrom hld henv hb hk
  go_enter Tryz.func14, Tryz.ntmps14
  go_upto_region 1 with (fail)
  rw [show w.alloc (.cells #[.int .i64 0, .string ⟨#[]⟩, .int .i64 0, .slice none 0 0] 45) = w1 from HW1.out]
  clear HW1
  have hfull : ∀ V : Value, (∃ x c, V = .slice x (bs.length - k) c ∧ Bt (fun i => i < w.heap.size) w x c (bs.drop k)) → Hid (Rst (fun i => i < w.heap.size) w1.heap.size (w1.alloc (.cells #[V] 71)) (bs.drop k)) ∧ Hid (Calls Tryz.prog 31 #[.pointer (some ⟨w1.heap.size, 0, none⟩), .int .i64 8] (w1.alloc (.cells #[V] 71)) (ROut (fun i => i < w.heap.size) w1.heap.size (w1.alloc (.cells #[V] 71)) (Rp.replyD 8 (bs.drop k)))) := by
    rintro V ⟨x, c, rfl, hbt⟩
    have hs8 := HENV.out.size
    have hs1 := HS1.out
    have hbb : Below w.heap.size w (w1.alloc (.cells #[.slice x (bs.length - k) c] 71)) := HB1.out.alloc HB1.out.size _
    have hr : Rst (fun i => i < w.heap.size) w1.heap.size (w1.alloc (.cells #[.slice x (bs.length - k) c] 71)) (bs.drop k) := by
      refine ⟨x, c, ?_, hbt.keeps (Keeps.of_below hbb fun _ _ h => h) fun _ h => h⟩
      rw [HLD.out]
      exact World.alloc_heap_new w1 _
    refine ⟨Lib.hid hr, Lib.hid ?_⟩
    exact callsIn_wide.1 (reply_any (fun i => i < w.heap.size) w1.heap.size (by omega) (by omega) 8 (bs.drop k) _ (by decide) hr (fun i hi => by simp; omega) (HENV.out.later hbb) (fun t _ => ia_any _ (by rw [List.length_take]; omega)))
  have hkeep : ∀ (V : Value) (w3 : World), Keeps (fun i => i ≠ w1.heap.size) (w1.alloc (.cells #[V] 71)) w3 → w3.heap[w.heap.size]? = some (.cells #[.int .i64 0, .string ⟨#[]⟩, .int .i64 0, .slice none 0 0] 45 (0, 0)) ∧ Below w.heap.size w w3 ∧ w1.heap.size + 1 ≤ w3.heap.size := by
    intro V w3 hk
    have hs1 := HS1.out
    have hbb : Below w.heap.size w (w1.alloc (.cells #[V] 71)) := HB1.out.alloc HB1.out.size _
    refine ⟨hk.heap ((((Below.refl w1.heap.size w1).alloc (Nat.le_refl _) (.cells #[V] 71)).block w.heap.size (by omega)).trans HX.out) (by omega), hbb.trans (hk.below (by simp; omega) (fun i hi => by omega)), ?_⟩
    have := hk.size
    simpa using this
  have HKP := Lib.hid hkeep
  clear hkeep
  rcases hcase with ⟨hcn, hv⟩ | ⟨hcn, hv⟩ <;> subst hv
  · subst hcn
    have hz : bs.length - k = 0 := by omega
    rw [Nat.sub_self] at HFR
    obtain ⟨HR3, HC3⟩ := hfull (.slice a (bs.length - k) 0) ⟨_, _, rfl, HFR.out⟩
    rw [hz] at HR3 HC3
    have HDD : ∀ o, Rp.replyD 8 (bs.drop k) = o → Hid (Rp.replyD 8 (bs.drop k) = o) := fun o h => Lib.hid h
    cases hD : Rp.replyD 8 (bs.drop k) with
    | err c =>
      have HCE := Lib.hid (by have := HC3.out; rw [hD] at this; exact this : Calls Tryz.prog 31 _ _ (ROut _ _ _ (.err c)))
      have HD := HDD _ hD
      clear hD hfull HC3 HDD
      go_wp2_with fail
      refine HCE.out.mono ?_
      rintro e w3 ⟨hk3, hc0, kk, ss, nn, aa, mm, cc, rfl⟩
      obtain ⟨hX3, hB3, hs3⟩ := HKP.out _ w3 hk3
      obtain ⟨b0, b1, b2, b3, f0, f1, f2, f3⟩ := cells_four' hX3
      have HX3 := Lib.hid hX3
      have HB3 := Lib.hid hB3
      clear hX3 hB3 hk3 hs3
      go_wp2
      refine bodyPost_ret (results_cellt2 (T := 45) (p := ⟨w.heap.size, 0, none⟩) rfl rfl (loadVar24' _ _ (heap_four (heap_four HX3.out (.int .i64 kk) (.string ss) (.int .i64 nn) (.slice aa mm cc)) (.int .i64 0) (.string ⟨#[]⟩) (.int .i64 0) (.slice none 0 0)))) rfl ?_
      rw [HD.out]
      exact ⟨below_set4 (below_set4 HB3.out (Nat.le_refl _) _ _ _ _) (Nat.le_refl _) _ _ _ _, hc0, rfl⟩
    | ok r t =>
      have HCE := Lib.hid (by have := HC3.out; rw [hD] at this; exact this : Calls Tryz.prog 31 _ _ (ROut _ _ _ (.ok r t)))
      have HD := HDD _ hD
      clear hD hfull HC3 HDD
      go_wp2_with fail
      refine HCE.out.mono ?_
      rintro e w3 ⟨hk3, ⟨v, rfl, hrep⟩, hrst⟩
      have htl : (t.length : Int) ≤ (bs.length : Int) := by
        obtain ⟨j, hj⟩ := Rp.replyD_suf 8 HD.out
        rw [hj, List.length_drop, List.length_drop]; omega
      have HWR : Hid (IntKind.i64.wrap ((bs.length : Int) - (t.length : Int)) = (bs.length : Int) - (t.length : Int)) := Lib.hid (by rw [IntKind.wrap_i64]; omega)
      clear htl
      obtain ⟨aa, mm, hv, hfit, hls⟩ := hrep.parts
      subst hv
      obtain ⟨hX3, hB3, hs3⟩ := HKP.out _ w3 hk3
      obtain ⟨b0, b1, b2, b3, f0, f1, f2, f3⟩ := cells_four' hX3
      obtain ⟨ra, rc, hrb, hrbt⟩ := hrst
      have HREP := Lib.hid hrep
      have HLS := Lib.hid (hrbt.1)
      obtain ⟨rk, hrk⟩ : ∃ x, r.k = x := ⟨_, rfl⟩
      obtain ⟨rs, hrs⟩ : ∃ x, (⟨r.s.toArray⟩ : ByteArray) = x := ⟨_, rfl⟩
      obtain ⟨rn, hrn⟩ : ∃ x, r.n = x := ⟨_, rfl⟩
      obtain ⟨rl, hrl⟩ : ∃ x, r.l.length = x := ⟨_, rfl⟩
      unfold rv at HREP ⊢
      rw [hrk, hrs, hrn, hrl] at HREP ⊢
      clear hfit hls hrep hrbt hrk hrs hrn hrl
      obtain ⟨W4, hW4⟩ : ∃ W4, set4 w3 w.heap.size (.int .i64 rk) (.string rs) (.int .i64 rn) (.slice aa rl mm) = W4 := ⟨_, rfl⟩
      have hX4 := heap_four hX3 (.int .i64 rk) (.string rs) (.int .i64 rn) (.slice aa rl mm)
      have hB4 := below_set4 hB3 (Nat.le_refl _) (.int .i64 rk) (.string rs) (.int .i64 rn) (.slice aa rl mm)
      have hP4 : (set4 w3 w.heap.size (.int .i64 rk) (.string rs) (.int .i64 rn) (.slice aa rl mm)).heap[w1.heap.size]? = some (.cells #[.slice ra t.length rc] 71 (0, 0)) := by
        have := (keeps_set4 (T := fun i => i ≠ w.heap.size) (Keeps.refl _ w3) (b := w.heap.size) (.inr fun h => h rfl) (.int .i64 rk) (.string rs) (.int .i64 rn) (.slice aa rl mm)).block w1.heap.size (by omega) (by have := HS1.out; omega)
        exact this.trans hrb
      have hRP4 := Rep.keeps (S' := fun i => w.heap.size ≤ i ∧ i ≠ w.heap.size) (keeps_set4 (T := fun i => w1.heap.size + 1 ≤ i) (Keeps.refl _ w3) (b := w.heap.size) (.inr (by have := HS1.out; omega)) (.int .i64 rk) (.string rs) (.int .i64 rn) (.slice aa rl mm)) (fun i h _ => by have := HS1.out; exact ⟨by omega, by omega⟩) r _ (HREP.out.mono (S' := fun i => w1.heap.size + 1 ≤ i) (fun i h _ => by simpa using h))
      rw [hW4] at hX4 hB4 hP4 hRP4
      have hW4' : (((w3.setCell ⟨w.heap.size, 0, none⟩ (.int .i64 rk)).setCell ⟨w.heap.size, 1, none⟩ (.string rs)).setCell ⟨w.heap.size, 2, none⟩ (.int .i64 rn)).setCell ⟨w.heap.size, 3, none⟩ (.slice aa rl mm) = W4 := hW4
      have HW4 := Lib.hid hW4'
      have HX4 := Lib.hid hX4
      have HB4 := Lib.hid hB4
      have HP4 := Lib.hid hP4
      have HRP4 := Lib.hid hRP4
      clear hX3 hB3 hk3 hs3 hrb hX4 hB4 hP4 hRP4 hW4 hW4' HREP
      go_upto_region 7 with (fail)
      rw [HW4.out]
      have hsg : SG w.heap.size w.heap.size w1.heap.size w r (.int .i64 rk) (.string rs) (.int .i64 rn) (.slice aa rl mm) (.slice ra t.length rc) W4.drew := sg_drew ⟨Nat.le_refl _, by have := HS1.out; omega, by have := HS1.out; omega, HX4.out, HP4.out, HB4.out, HRP4.out⟩
      have hsg2 := sg_cells hsg
      have HSF : Hid (SG w.heap.size w.heap.size w1.heap.size w r (.int .i64 rk) (.string rs) (.int .i64 rn) (.slice aa rl mm) (.slice ra t.length rc) (set4 W4 w.heap.size (.int .i64 rk) (.string rs) (.int .i64 rn) (.slice aa rl mm)).drew) := Lib.hid (sg_drew (sg_same ⟨Nat.le_refl _, by have := HS1.out; omega, by have := HS1.out; omega, HX4.out, HP4.out, HB4.out, HRP4.out⟩))
      clear HW4 b0 b1 b2 b3 f0 f1 f2 f3 hsg
      obtain ⟨b0, b1, b2, b3, f0, f1, f2, f3⟩ := cells_four' HX4.out
      have p0 := Boxed.cell HP4.out
      have hstv := fun W' => sg_store (B := w.heap.size) (Rb := w.heap.size) (Pb := w1.heap.size) (w := w) (r := r) (x := .int .i64 rk) (y := .string rs) (z := .int .i64 rn) (u := .slice aa rl mm) (sl := .slice ra t.length rc) (W := W') rfl rfl rfl rfl
      go_region_held3 (fun W' => (W'.cell? ⟨w.heap.size, 0, none⟩ = some (.int .i64 rk) ∧ W'.cell? ⟨w.heap.size, 1, none⟩ = some (.string rs) ∧ W'.cell? ⟨w.heap.size, 2, none⟩ = some (.int .i64 rn) ∧ W'.cell? ⟨w.heap.size, 3, none⟩ = some (.slice aa rl mm) ∧ W'.frozen? ⟨w.heap.size, 0, none⟩ = false ∧ W'.frozen? ⟨w.heap.size, 1, none⟩ = false ∧ W'.frozen? ⟨w.heap.size, 2, none⟩ = false ∧ W'.frozen? ⟨w.heap.size, 3, none⟩ = false ∧ W'.cell? ⟨w1.heap.size, 0, none⟩ = some (.slice ra t.length rc)) ∧ SG w.heap.size w.heap.size w1.heap.size w r (.int .i64 rk) (.string rs) (.int .i64 rn) (.slice aa rl mm) (.slice ra t.length rc) W')
        (first | assumption | exact sg_cells (sg_same (And.right ‹_›)))
        (fail)
      go_wp2
      refine bodyPost_ret (results_cellt2 (T := 45) (p := ⟨w.heap.size, 0, none⟩) rfl rfl (loadVar24' _ _ HSF.out.2.2.2.1)) rfl ?_
      rw [HD.out]
      refine ⟨HSF.out.2.2.2.2.2.1, rk, rs, rn, aa, rl, mm, ?_, HSF.out.2.2.2.2.2.2.mono fun i hi _ => hi.1⟩
      show Ending.returned (.tuple #[.agg #[.int .i64 rk, .string rs, .int .i64 rn, .slice aa rl mm], .int .i64 (IntKind.i64.wrap ((bs.length : Int) - (t.length : Int))), .int .i64 0]) = _
      rw [HWR.out]
  · have hne : ¬ cap = k := hcn
    obtain ⟨HR3, HC3⟩ := hfull (.slice (a.map fun x => x.add k) (bs.length - k) (cap - k)) ⟨_, _, rfl, HFR.out⟩
    have HDD : ∀ o, Rp.replyD 8 (bs.drop k) = o → Hid (Rp.replyD 8 (bs.drop k) = o) := fun o h => Lib.hid h
    cases hD : Rp.replyD 8 (bs.drop k) with
    | err c =>
      have HCE := Lib.hid (by have := HC3.out; rw [hD] at this; exact this : Calls Tryz.prog 31 _ _ (ROut _ _ _ (.err c)))
      have HD := HDD _ hD
      clear hD hfull HC3 HDD
      go_wp2_with fail
      refine HCE.out.mono ?_
      rintro e w3 ⟨hk3, hc0, kk, ss, nn, aa, mm, cc, rfl⟩
      obtain ⟨hX3, hB3, hs3⟩ := HKP.out _ w3 hk3
      obtain ⟨b0, b1, b2, b3, f0, f1, f2, f3⟩ := cells_four' hX3
      have HX3 := Lib.hid hX3
      have HB3 := Lib.hid hB3
      clear hX3 hB3 hk3 hs3
      go_wp2
      refine bodyPost_ret (results_cellt2 (T := 45) (p := ⟨w.heap.size, 0, none⟩) rfl rfl (loadVar24' _ _ (heap_four (heap_four HX3.out (.int .i64 kk) (.string ss) (.int .i64 nn) (.slice aa mm cc)) (.int .i64 0) (.string ⟨#[]⟩) (.int .i64 0) (.slice none 0 0)))) rfl ?_
      rw [HD.out]
      exact ⟨below_set4 (below_set4 HB3.out (Nat.le_refl _) _ _ _ _) (Nat.le_refl _) _ _ _ _, hc0, rfl⟩
    | ok r t =>
      have HCE := Lib.hid (by have := HC3.out; rw [hD] at this; exact this : Calls Tryz.prog 31 _ _ (ROut _ _ _ (.ok r t)))
      have HD := HDD _ hD
      clear hD hfull HC3 HDD
      go_wp2_with fail
      refine HCE.out.mono ?_
      rintro e w3 ⟨hk3, ⟨v, rfl, hrep⟩, hrst⟩
      have htl : (t.length : Int) ≤ (bs.length : Int) := by
        obtain ⟨j, hj⟩ := Rp.replyD_suf 8 HD.out
        rw [hj, List.length_drop, List.length_drop]; omega
      have HWR : Hid (IntKind.i64.wrap ((bs.length : Int) - (t.length : Int)) = (bs.length : Int) - (t.length : Int)) := Lib.hid (by rw [IntKind.wrap_i64]; omega)
      clear htl
      obtain ⟨aa, mm, hv, hfit, hls⟩ := hrep.parts
      subst hv
      obtain ⟨hX3, hB3, hs3⟩ := HKP.out _ w3 hk3
      obtain ⟨b0, b1, b2, b3, f0, f1, f2, f3⟩ := cells_four' hX3
      obtain ⟨ra, rc, hrb, hrbt⟩ := hrst
      have HREP := Lib.hid hrep
      have HLS := Lib.hid (hrbt.1)
      obtain ⟨rk, hrk⟩ : ∃ x, r.k = x := ⟨_, rfl⟩
      obtain ⟨rs, hrs⟩ : ∃ x, (⟨r.s.toArray⟩ : ByteArray) = x := ⟨_, rfl⟩
      obtain ⟨rn, hrn⟩ : ∃ x, r.n = x := ⟨_, rfl⟩
      obtain ⟨rl, hrl⟩ : ∃ x, r.l.length = x := ⟨_, rfl⟩
      unfold rv at HREP ⊢
      rw [hrk, hrs, hrn, hrl] at HREP ⊢
      clear hfit hls hrep hrbt hrk hrs hrn hrl
      obtain ⟨W4, hW4⟩ : ∃ W4, set4 w3 w.heap.size (.int .i64 rk) (.string rs) (.int .i64 rn) (.slice aa rl mm) = W4 := ⟨_, rfl⟩
      have hX4 := heap_four hX3 (.int .i64 rk) (.string rs) (.int .i64 rn) (.slice aa rl mm)
      have hB4 := below_set4 hB3 (Nat.le_refl _) (.int .i64 rk) (.string rs) (.int .i64 rn) (.slice aa rl mm)
      have hP4 : (set4 w3 w.heap.size (.int .i64 rk) (.string rs) (.int .i64 rn) (.slice aa rl mm)).heap[w1.heap.size]? = some (.cells #[.slice ra t.length rc] 71 (0, 0)) := by
        have := (keeps_set4 (T := fun i => i ≠ w.heap.size) (Keeps.refl _ w3) (b := w.heap.size) (.inr fun h => h rfl) (.int .i64 rk) (.string rs) (.int .i64 rn) (.slice aa rl mm)).block w1.heap.size (by omega) (by have := HS1.out; omega)
        exact this.trans hrb
      have hRP4 := Rep.keeps (S' := fun i => w.heap.size ≤ i ∧ i ≠ w.heap.size) (keeps_set4 (T := fun i => w1.heap.size + 1 ≤ i) (Keeps.refl _ w3) (b := w.heap.size) (.inr (by have := HS1.out; omega)) (.int .i64 rk) (.string rs) (.int .i64 rn) (.slice aa rl mm)) (fun i h _ => by have := HS1.out; exact ⟨by omega, by omega⟩) r _ (HREP.out.mono (S' := fun i => w1.heap.size + 1 ≤ i) (fun i h _ => by simpa using h))
      rw [hW4] at hX4 hB4 hP4 hRP4
      have hW4' : (((w3.setCell ⟨w.heap.size, 0, none⟩ (.int .i64 rk)).setCell ⟨w.heap.size, 1, none⟩ (.string rs)).setCell ⟨w.heap.size, 2, none⟩ (.int .i64 rn)).setCell ⟨w.heap.size, 3, none⟩ (.slice aa rl mm) = W4 := hW4
      have HW4 := Lib.hid hW4'
      have HX4 := Lib.hid hX4
      have HB4 := Lib.hid hB4
      have HP4 := Lib.hid hP4
      have HRP4 := Lib.hid hRP4
      clear hX3 hB3 hk3 hs3 hrb hX4 hB4 hP4 hRP4 hW4 hW4' HREP
      go_upto_region 7 with (fail)
      rw [HW4.out]
      have hsg : SG w.heap.size w.heap.size w1.heap.size w r (.int .i64 rk) (.string rs) (.int .i64 rn) (.slice aa rl mm) (.slice ra t.length rc) W4.drew := sg_drew ⟨Nat.le_refl _, by have := HS1.out; omega, by have := HS1.out; omega, HX4.out, HP4.out, HB4.out, HRP4.out⟩
      have hsg2 := sg_cells hsg
      have HSF : Hid (SG w.heap.size w.heap.size w1.heap.size w r (.int .i64 rk) (.string rs) (.int .i64 rn) (.slice aa rl mm) (.slice ra t.length rc) (set4 W4 w.heap.size (.int .i64 rk) (.string rs) (.int .i64 rn) (.slice aa rl mm)).drew) := Lib.hid (sg_drew (sg_same ⟨Nat.le_refl _, by have := HS1.out; omega, by have := HS1.out; omega, HX4.out, HP4.out, HB4.out, HRP4.out⟩))
      clear HW4 b0 b1 b2 b3 f0 f1 f2 f3 hsg
      obtain ⟨b0, b1, b2, b3, f0, f1, f2, f3⟩ := cells_four' HX4.out
      have p0 := Boxed.cell HP4.out
      have hstv := fun W' => sg_store (B := w.heap.size) (Rb := w.heap.size) (Pb := w1.heap.size) (w := w) (r := r) (x := .int .i64 rk) (y := .string rs) (z := .int .i64 rn) (u := .slice aa rl mm) (sl := .slice ra t.length rc) (W := W') rfl rfl rfl rfl
      go_region_held3 (fun W' => (W'.cell? ⟨w.heap.size, 0, none⟩ = some (.int .i64 rk) ∧ W'.cell? ⟨w.heap.size, 1, none⟩ = some (.string rs) ∧ W'.cell? ⟨w.heap.size, 2, none⟩ = some (.int .i64 rn) ∧ W'.cell? ⟨w.heap.size, 3, none⟩ = some (.slice aa rl mm) ∧ W'.frozen? ⟨w.heap.size, 0, none⟩ = false ∧ W'.frozen? ⟨w.heap.size, 1, none⟩ = false ∧ W'.frozen? ⟨w.heap.size, 2, none⟩ = false ∧ W'.frozen? ⟨w.heap.size, 3, none⟩ = false ∧ W'.cell? ⟨w1.heap.size, 0, none⟩ = some (.slice ra t.length rc)) ∧ SG w.heap.size w.heap.size w1.heap.size w r (.int .i64 rk) (.string rs) (.int .i64 rn) (.slice aa rl mm) (.slice ra t.length rc) W')
        (first | assumption | exact sg_cells (sg_same (And.right ‹_›)))
        (fail)
      go_wp2
      refine bodyPost_ret (results_cellt2 (T := 45) (p := ⟨w.heap.size, 0, none⟩) rfl rfl (loadVar24' _ _ HSF.out.2.2.2.1)) rfl ?_
      rw [HD.out]
      refine ⟨HSF.out.2.2.2.2.2.1, rk, rs, rn, aa, rl, mm, ?_, HSF.out.2.2.2.2.2.2.mono fun i hi _ => hi.1⟩
      show Ending.returned (.tuple #[.agg #[.int .i64 rk, .string rs, .int .i64 rn, .slice aa rl mm], .int .i64 (IntKind.i64.wrap ((bs.length : Int) - (t.length : Int))), .int .i64 0]) = _
      rw [HWR.out]

/-- GET's CONTRACT. -/
theorem get_any (bs : List UInt8) (at_ : Int) (a : Option Addr) (cap : Nat) (w : World) (hl : bs.length ≤ 1000000) (a0 : -9223372036854775808 ≤ at_) (a1 : at_ ≤ 9223372036854775807) (hb : Bt (fun i => i < w.heap.size) w a cap bs) (henv : Env w) :
    Calls Tryz.prog 14 #[.slice a bs.length cap, .int .i64 at_] w (GOut w bs.length (getO bs at_)) := by
  by_cases h : at_ < 0 ∨ (bs.length : Int) < at_
  · exact get_arg bs at_ a cap w (by omega) h a0 a1
  · obtain ⟨k, rfl⟩ := Int.eq_ofNat_of_zero_le (show 0 ≤ at_ by omega)
    have := get_in bs k a cap w hl (by omega) hb henv
    unfold getO
    rw [if_neg h, Int.toNat_natCast]
    exact this
end Go.Proofs.YtbkhnnjjpelfcaaGreatDoor
