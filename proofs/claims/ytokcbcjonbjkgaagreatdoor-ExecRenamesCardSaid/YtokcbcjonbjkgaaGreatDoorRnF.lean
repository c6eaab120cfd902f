/- The program's exec: small replies, fits, read, follow. -/
import Derived.Test.YtokcbcjonbjkgaaGreatDoorRpRep
import Derived.Test.YtokcbcjonbjkgaaGreatDoorWds
import Derived.Maps.OwnIn
import Derived.Below
import Derived.BigQuiet
import Derived.Deep.Cut
import Derived.Deep.CutRange
import Derived.Deep.DeepCutAuto
import Derived.Test.YtokcbcjonbjkgaaGreatDoorEcCall
import Derived.Test.YtokcbcjonbjkgaaGreatDoorHeldL
import Derived.Maps.RangeWalk
import Derived.WideLaws
import Derived.Sort.MapsRangeIn
import Derived.Test.YtokcbcjonbjkgaaGreatDoorEcRules
import Derived.Deep.AppendLies
import Derived.Laws.EntriesVeiled
namespace Go.Proofs.YtokcbcjonbjkgaaGreatDoor
open Go.RowKit Go.Shelf
attribute [local go_sem] Oper.semAt_some
set_option linter.unusedVariables false
set_option linter.unusedSimpArgs false

/-- a reply's box. -/
def Rb (W : World) (B : Nat) (k : Int) (s : List UInt8) (n : Int) (a : Option Addr) (m c : Nat) : Prop :=
  W.heap[B]? = some (.cells #[.int .i64 k, .string ⟨s.toArray⟩, .int .i64 n, .slice a m c] 26 (0, 0))
def stRb (w : World) (B : Nat) (k : Int) (s : List UInt8) (n : Int) (a : Option Addr) (m c : Nat) : World :=
  (((w.setCell ⟨B, 0, none⟩ (.int .i64 k)).setCell ⟨B, 1, none⟩ (.string ⟨s.toArray⟩)).setCell ⟨B, 2, none⟩ (.int .i64 n)).setCell ⟨B, 3, none⟩ (.slice a m c)
theorem Rb.lt {W : World} {B : Nat} {k : Int} {s : List UInt8} {n : Int} {a : Option Addr} {m c : Nat} (h : Rb W B k s n a m c) : B < W.heap.size := (Array.getElem?_eq_some_iff.1 h).1
theorem Rb.at {W : World} {B : Nat} {k : Int} {s : List UInt8} {n : Int} {a : Option Addr} {m c : Nat} (h : Rb W B k s n a m c) :
    (W.cell? ⟨B, 0, none⟩ = some (.int .i64 k) ∧ W.cell? ⟨B, 1, none⟩ = some (.string ⟨s.toArray⟩) ∧ W.cell? ⟨B, 2, none⟩ = some (.int .i64 n) ∧ W.cell? ⟨B, 3, none⟩ = some (.slice a m c)) ∧
    (W.frozen? ⟨B, 0, none⟩ = false ∧ W.frozen? ⟨B, 1, none⟩ = false ∧ W.frozen? ⟨B, 2, none⟩ = false ∧ W.frozen? ⟨B, 3, none⟩ = false) := by
  unfold Rb at h
  simp [World.cell?, World.frozen?, h]
theorem Rb.later {W W' : World} {B : Nat} {k : Int} {s : List UInt8} {n : Int} {a : Option Addr} {m c : Nat} (h : Rb W B k s n a m c) (hb : Below W.heap.size W W') : Rb W' B k s n a m c := (hb.block _ h.lt).trans h
theorem Rb.store {W : World} {B : Nat} {k0 : Int} {s0 : List UInt8} {n0 : Int} {a0 : Option Addr} {m0 c0 : Nat} (h : Rb W B k0 s0 n0 a0 m0 c0) (k : Int) (s : List UInt8) (n : Int) (a : Option Addr) (m c : Nat) :
    Rb (stRb W B k s n a m c) B k s n a m c := by
  unfold Rb at h ⊢
  simp [stRb, World.setCell, Array.getElem?_modify, h]
theorem below_stRb {w W : World} {B : Nat} (h : Below w.heap.size w W) (hB : w.heap.size ≤ B) (k : Int) (s : List UInt8) (n : Int) (a : Option Addr) (m c : Nat) : Below w.heap.size w (stRb W B k s n a m c) :=
  (((h.setCell (p := ⟨B, 0, none⟩) hB _).setCell (p := ⟨B, 1, none⟩) hB _).setCell (p := ⟨B, 2, none⟩) hB _).setCell (p := ⟨B, 3, none⟩) hB _
theorem loadRb {W : World} {B : Nat} {k : Int} {s : List UInt8} {n : Int} {a : Option Addr} {m c : Nat} (h : Rb W B k s n a m c) :
    (loadVar 26 ⟨B, 0, none⟩).run Tryz.prog W = .ok (rv k s n a m c) W := by
  obtain ⟨⟨h0, h1, h2, h3⟩, -⟩ := h.at
  simp [loadVar, go_sem, h0, h1, h2, h3, rv]
/-- zero, and what was there. -/
def Rz (w W : World) : Prop := Rb W w.heap.size 0 [] 0 none 0 0 ∧ Below w.heap.size w W
theorem Rz.later {w W W' : World} (h : Rz w W) (hb : Below W.heap.size W W') : Rz w W' := ⟨h.1.later hb, h.2.trans (hb.mono h.2.size)⟩
theorem Rz.new (w : World) : Rz w (w.alloc (.cells #[.int .i64 0, .string ⟨#[]⟩, .int .i64 0, .slice none 0 0] 26)) := ⟨World.alloc_heap_new w _, (Below.refl _ w).alloc (Nat.le_refl _) _⟩

/-- a reply of which nothing lies in memory. -/
def flatV (k : Int) (s : List UInt8) (n : Int) : Value := rv k s n none 0 0
def FlatOut (k : Int) (s : List UInt8) (n : Int) (w : World) (e : Ending) (W : World) : Prop := e = .returned (flatV k s n) ∧ Below w.heap.size w W

/-- a reply that was just made. -/
def mkR (w : World) (k : Int) (s : List UInt8) (n : Int) : World := w.alloc (.cells #[.int .i64 k, .string ⟨s.toArray⟩, .int .i64 n, .slice none 0 0] 26)
theorem mkR_new (w : World) (k : Int) (s : List UInt8) (n : Int) : Rb (mkR w k s n) w.heap.size k s n none 0 0 ∧ Below w.heap.size w (mkR w k s n) := ⟨World.alloc_heap_new w _, (Below.refl _ w).alloc (Nat.le_refl _) _⟩
end Go.Proofs.YtokcbcjonbjkgaaGreatDoor
namespace Go.Proofs.YtokcbcjonbjkgaaGreatDoor
open Go.RowKit Go.Shelf
attribute [local go_sem] Oper.semAt_some
set_option linter.unusedVariables false
set_option linter.unusedSimpArgs false

set_option maxHeartbeats 4000000 in
theorem failed_c (w : World) : Calls Tryz.prog 18 #[] w (FlatOut 2 [69, 82, 82] 0 w) := by
  have HS := Lib.hid (mkR_new w 2 [69, 82, 82] 0)
  go_enter Tryz.func18, Tryz.ntmps18
  go_wp2
  exact bodyPost_ret (results_cell rfl rfl (loadRb HS.out.1)) rfl ⟨rfl, HS.out.2⟩
set_option maxHeartbeats 4000000 in
theorem number_c (n : Int) (w : World) : Calls Tryz.prog 127 #[.int .i64 n] w (FlatOut 3 [] n w) := by
  have HS := Lib.hid (mkR_new w 3 [] n)
  go_enter Tryz.func127, Tryz.ntmps127
  go_wp2
  exact bodyPost_ret (results_cell rfl rfl (loadRb HS.out.1)) rfl ⟨rfl, HS.out.2⟩
set_option maxHeartbeats 4000000 in
theorem simple_c (s : List UInt8) (w : World) : Calls Tryz.prog 154 #[.string ⟨s.toArray⟩] w (FlatOut 1 s 0 w) := by
  have HS := Lib.hid (mkR_new w 1 s 0)
  go_enter Tryz.func154, Tryz.ntmps154
  go_wp2
  exact bodyPost_ret (results_cell rfl rfl (loadRb HS.out.1)) rfl ⟨rfl, HS.out.2⟩
set_option maxHeartbeats 4000000 in
theorem done_c (w : World) : Calls Tryz.prog 145 #[] w (FlatOut 1 [79, 75] 0 w) := by
  have HZ := Lib.hid (Rz.new w)
  have HC := Lib.hid (fun W => simple_c [79, 75] W)
  go_enter Tryz.func145, Tryz.ntmps145
  go_wp2_with (refine (HC.out _).mono ?_; rintro e w1 ⟨rfl, hb⟩; have hz := HZ.out.later hb; have HZ1 := Lib.hid hz; obtain ⟨⟨z0, z1, z2, z3⟩, ⟨y0, y1, y2, y3⟩⟩ := hz.1.at; clear hz hb; simp only [flatV, rv])
  exact bodyPost_ret (results_cell rfl rfl (loadRb (HZ1.out.1.store 1 [79, 75] 0 none 0 0))) rfl ⟨rfl, below_stRb HZ1.out.2 (Nat.le_refl _) _ _ _ _ _ _⟩
set_option maxHeartbeats 4000000 in
theorem ping_c (a : Value) (w : World) : Calls Tryz.prog 107 #[a] w (FlatOut 1 [80, 79, 78, 71] 0 w) := by
  have HZ := Lib.hid (Rz.new w)
  have HC := Lib.hid (fun W => simple_c [80, 79, 78, 71] W)
  go_enter Tryz.func107, Tryz.ntmps107
  go_wp2_with (refine (HC.out _).mono ?_; rintro e w1 ⟨rfl, hb⟩; have hz := HZ.out.later hb; have HZ1 := Lib.hid hz; obtain ⟨⟨z0, z1, z2, z3⟩, ⟨y0, y1, y2, y3⟩⟩ := hz.1.at; clear hz hb; simp only [flatV, rv])
  exact bodyPost_ret (results_cell rfl rfl (loadRb (HZ1.out.1.store 1 [80, 79, 78, 71] 0 none 0 0))) rfl ⟨rfl, below_stRb HZ1.out.2 (Nat.le_refl _) _ _ _ _ _ _⟩
set_option maxHeartbeats 4000000 in
theorem yes_c (b : Bool) (w : World) : Calls Tryz.prog 135 #[.bool b] w (FlatOut 3 [] (if b then 1 else 0) w) := by
  have HZ := Lib.hid (Rz.new w)
  cases b with
  | true =>
    have HC := Lib.hid (fun W => number_c 1 W)
    go_enter Tryz.func135, Tryz.ntmps135
    go_wp2_with (refine (HC.out _).mono ?_; rintro e w1 ⟨rfl, hb⟩; have hz := HZ.out.later hb; have HZ1 := Lib.hid hz; obtain ⟨⟨z0, z1, z2, z3⟩, ⟨y0, y1, y2, y3⟩⟩ := hz.1.at; clear hz hb; simp only [flatV, rv])
    exact bodyPost_ret (results_cell rfl rfl (loadRb (HZ1.out.1.store 3 [] 1 none 0 0))) rfl ⟨rfl, below_stRb HZ1.out.2 (Nat.le_refl _) _ _ _ _ _ _⟩
  | false =>
    have HC := Lib.hid (fun W => number_c 0 W)
    go_enter Tryz.func135, Tryz.ntmps135
    go_wp2_with (refine (HC.out _).mono ?_; rintro e w1 ⟨rfl, hb⟩; have hz := HZ.out.later hb; have HZ1 := Lib.hid hz; obtain ⟨⟨z0, z1, z2, z3⟩, ⟨y0, y1, y2, y3⟩⟩ := hz.1.at; clear hz hb; simp only [flatV, rv])
    exact bodyPost_ret (results_cell rfl rfl (loadRb (HZ1.out.1.store 3 [] 0 none 0 0))) rfl ⟨rfl, below_stRb HZ1.out.2 (Nat.le_refl _) _ _ _ _ _ _⟩
set_option maxHeartbeats 4000000 in
theorem bulk_c (s : List UInt8) (b : Bool) (w : World) : Calls Tryz.prog 124 #[.string ⟨s.toArray⟩, .bool b] w (FlatOut (if b then 4 else 5) (if b then s else []) 0 w) := by
  cases b with
  | true =>
    have HS := Lib.hid (mkR_new w 4 s 0)
    go_enter Tryz.func124, Tryz.ntmps124
    go_wp2
    exact bodyPost_ret (results_cell rfl rfl (loadRb HS.out.1)) rfl ⟨rfl, HS.out.2⟩
  | false =>
    have HS := Lib.hid (mkR_new w 5 [] 0)
    go_enter Tryz.func124, Tryz.ntmps124
    go_wp2
    exact bodyPost_ret (results_cell rfl rfl (loadRb HS.out.1)) rfl ⟨rfl, HS.out.2⟩
end Go.Proofs.YtokcbcjonbjkgaaGreatDoor
namespace Go.Proofs.YtokcbcjonbjkgaaGreatDoor
open Go.RowKit Go.Shelf
attribute [local go_sem] Oper.semAt_some
set_option linter.unusedVariables false
set_option linter.unusedSimpArgs false

theorem exKey_inv {key : Value} {kl : Lit} (h : keyOf Tryz.prog 9 key = some kl) : ∃ x : List UInt8, key = .string ⟨x.toArray⟩ := by
  obtain ⟨s, rfl⟩ := Maps.keyOf_string_inv Tryz.underlying9 h
  exact ⟨s.data.toList, by simp⟩
theorem exKey_lit {x : List UInt8} {kl : Lit} (h : keyOf Tryz.prog 9 (.string ⟨x.toArray⟩) = some kl) : kl = .string x := by
  rw [Go.keyOf_string Tryz.underlying9] at h
  unfold mapKey at h
  rw [Tryz.underlying9] at h
  simp at h
  exact h.2.symm
theorem ranges_drew {w : World} {b r n : Nat} {D : DataW Value} {left : Lit → Bool} {cnt : Nat} (h : w.ranges Tryz.prog 9 heldI b r n D left cnt) : w.drew.ranges Tryz.prog 9 heldI b r n D left cnt := h
/-- do all items fit? -/
def FitsP (c : Cl) : Prop := ∀ k i, c.it k = some i → c.kind = 0 ∨ i.k = c.kind
/-- .. those that have come. -/
def FitsL (c : Cl) (left : Lit → Bool) : Prop := ∀ k i, c.it k = some i → left (.string k) = false → c.kind = 0 ∨ i.k = c.kind
theorem FitsL.step {c : Cl} {left : Lit → Bool} (h : FitsL c left) {x : List UInt8} {i : Li} (hx : c.it x = some i) (hi : c.kind = 0 ∨ i.k = c.kind) : FitsL c (fun z => left z && !z.sameKey (.string x)) := by
  intro k j hj hl
  by_cases hk : k = x
  · subst hk
    rw [hx] at hj
    cases hj
    exact hi
  · have hne : (Lit.string k).sameKey (.string x) = false := Maps.sameKey_ne fun e => hk (by injection e)
    have hl2 : (left (.string k) && !(Lit.string k).sameKey (.string x)) = false := hl
    rw [hne] at hl2
    exact h k j hj (by simpa using hl2)

set_option maxRecDepth 100000 in
set_option maxHeartbeats 8000000 in
theorem fits_c (c : Cl) (w0 W : World) (h : c.At w0 W) : Calls Tryz.prog 31 #[.pointer (some ⟨c.p, 0, none⟩)] W fun e W' => ∃ b, e = .returned (.bool b) ∧ (b = true ↔ FitsP c) ∧ Below W.heap.size W W' := by
  obtain ⟨p, hp⟩ : ∃ p, c.p = p := ⟨_, rfl⟩
  obtain ⟨mi, hmi⟩ : ∃ mi, c.mi = mi := ⟨_, rfl⟩
  obtain ⟨kind, hkd⟩ : ∃ kind, c.kind = kind := ⟨_, rfl⟩
  have hpl := h.lt.1
  have hml := h.lt.2.2
  have hpm := h.ne.2
  obtain ⟨D, hown, htell⟩ := h.hi
  obtain ⟨-, -, q2, -, -, -, q6, -⟩ := h.cell
  rw [hp] at hpl q2 q6 hpm ⊢
  rw [hmi] at q6 hml hpm hown
  rw [hkd] at q2
  have HC := Lib.hid (And.intro hp (And.intro hmi hkd))
  have HO := Lib.hid hown
  have HT := Lib.hid htell
  clear h hp hmi hkd hown htell
  go_enter Tryz.func31, Tryz.ntmps31
  go_wp2_with (at_range; refine wpList_range_own _ rfl (.tmp 8) 82 rfl 9 38 (Maps.string_keyed Tryz.underlying9) Tryz.underlying82 heldI mi c.ni D rfl HO.out ?_; intro w1 hr1 hg1 hz1; have HR1 := Lib.hid hr1; have HG1 := Lib.hid hg1; clear hr1 hg1)
  have HB1 : Hid (Keeps (fun _ => True) W w1) := Lib.hid (Keeps.of_grown HG1.out fun r e => by cases e)
  simp only [Act.put, List.setIfInBounds_toArray, List.set_cons_zero, List.set_cons_succ]
  go_loopw [4] (fun _ wr => ∃ left cnt, Hid (wr.ranges Tryz.prog 9 heldI mi W.heap.size c.ni D left cnt) ∧ Hid (FitsL c left) ∧ Hid (∀ kl, left kl = true → Maps.has D kl = true) ∧ Hid (Keeps (fun k => k ≠ W.heap.size) w1 wr)) (fun _ wr => wr.rangeLeft mi W.heap.size)
  case atStart =>
    refine ⟨_, _, HR1, Lib.hid fun k i hk hl => ?_, Lib.hid fun kl h => h, Lib.hid (Keeps.refl _ _)⟩
    have := (HT.out k).1
    rw [hl] at this
    simp [ML.v, hk] at this
  case round =>
    obtain ⟨left, cnt, HR, HF, HL, HK⟩ := hrel
    go_wp2_with (at_next; refine wpList_next_ranges _ rfl (.tmp 9) rfl 9 (Maps.string_keyed Tryz.underlying9) heldI (fun x : List UInt8 => Value.string ⟨x.toArray⟩) (fun v : Value => v) (fun key kl hk => exKey_inv hk) (fun v y _ => ⟨v, rfl⟩) mi W.heap.size c.ni D left cnt rfl HR.out ?done ?more)
    case done =>
      intro h0 hl
      have HL0 := Lib.hid hl
      clear h0 hl
      go_wp2
      go_ret
      exact ⟨true, rfl, ⟨fun _ k i hk => HF.out k i hk (HL0.out _), fun _ => rfl⟩, (HB1.out.below (Nat.le_refl _) fun _ _ => trivial).trans (HK.out.below (by have := HB1.out.size; omega) fun k hk => by omega)⟩
    case more =>
      intro x v kl yd yp w' cnt' hkey hlk hv hat hrg hlt hgr hsz hen
      have hkl : kl = .string x := exKey_lit hkey
      subst hkl
      have hvd := heldI_inv hv
      obtain ⟨i, hi, rfl⟩ : ∃ i, c.it x = some i ∧ v = i.v := by
        have h1 := (HT.out x).2 (.held zeroIv)
        have h2 := hat (.held zeroIv)
        have h3 := (HT.out x).1
        rw [HL.out _ hlk] at h3
        obtain ⟨i, hi⟩ := Option.isSome_iff_exists.1 h3.symm
        unfold ML.v at hi
        obtain ⟨j, hj, hji⟩ := Option.map_eq_some_iff.1 hi
        refine ⟨j, hj, ?_⟩
        rw [show c.it.v x = some i from hi, h2, hvd] at h1
        rw [hji]
        exact helI_inj h1
      have hkw : Keeps (fun k => k ≠ W.heap.size) wr w' := Keeps.of_grown hgr fun r e hne => by cases e; exact hne rfl
      have HK2 : Hid (Keeps (fun k => k ≠ W.heap.size) w1 w') := Lib.hid (HK.out.trans hkw)
      have hq2 : w'.cell? ⟨p, 2, none⟩ = some (.int .i64 kind) := ((HK2.out.cell (p := ⟨p, 2, none⟩) (by show p < _; omega) (by show p ≠ _; omega)).trans (HB1.out.cell (p := ⟨p, 2, none⟩) hpl trivial)).trans q2
      have hpw : p < w'.heap.size := by have := HK2.out.size; omega
      have HRG := Lib.hid hrg
      have HI := Lib.hid hi
      have HLF := Lib.hid (HR.out.left_eq)
      have HLT := Lib.hid hlt
      clear hrg hi hlt hkey hlk hv hat hgr hvd hkw hsz
      obtain ⟨k, s, aF, fs, cF, aL, ls, cL, xx⟩ := i
      simp only [Li.v, itv] at hen ⊢
      go_wp2
      obtain ⟨wq, hwq⟩ : ∃ wq, w'.alloc (.cells #[.int .i64 k, .string ⟨s.toArray⟩, .slice aF fs.length cF, .slice aL ls.length cL, .int .i64 xx] 38) = wq := ⟨_, rfl⟩
      have hxb : ItBox wq w'.heap.size k s aF fs.length cF aL ls.length cL xx := by rw [← hwq]; exact ItBox.new w' k s aF fs.length cF aL ls.length cL xx
      have hbq : Below w'.heap.size w' wq := by rw [← hwq]; exact (Below.refl _ _).alloc (Nat.le_refl _) _
      have q2q := (hbq.cell (p := ⟨p, 2, none⟩) hpw).trans hq2
      have hplq : p < wq.heap.size := Nat.lt_of_lt_of_le hpw hbq.size
      obtain ⟨x0, -⟩ := hxb.at
      have hBl := hxb.lt
      have HRQ : Hid (wq.ranges Tryz.prog 9 heldI mi W.heap.size c.ni D (fun z => left z && !z.sameKey (.string x)) cnt') := Lib.hid (by rw [← hwq]; exact HRG.out.alloc _)
      have HKQ : Hid (Keeps (fun k => k ≠ W.heap.size) w1 wq) := Lib.hid (by rw [← hwq]; exact HK2.out.alloc _)
      rw [hwq]
      obtain ⟨B, hB⟩ : ∃ B, w'.heap.size = B := ⟨_, rfl⟩
      rw [hB] at x0 hBl ⊢
      clear hwq hxb hbq hq2 HRG HK2
      have hend : ∀ (wz : World), Below wq.heap.size wq wz → Below W.heap.size W wz := fun wz hb => ((HB1.out.below (Nat.le_refl _) fun _ _ => trivial).trans (HKQ.out.below (by have := HB1.out.size; omega) fun k hk => by omega)).trans (hb.mono (by have := HKQ.out.size; have := HB1.out.size; omega))
      have HEND := Lib.hid hend
      clear hend
      have hgo : (kind = 0 ∨ k = kind) → ∃ left cnt, Hid (wq.drew.ranges Tryz.prog 9 heldI mi W.heap.size c.ni D left cnt) ∧ Hid (FitsL c left) ∧ Hid (∀ kl, left kl = true → Maps.has D kl = true) ∧ Hid (Keeps (fun k => k ≠ W.heap.size) w1 wq.drew) := fun hok =>
        ⟨_, _, Lib.hid (ranges_drew HRQ.out), Lib.hid (HF.out.step HI.out (by rw [HC.out.2.2]; exact hok)), Lib.hid fun kl h => HL.out kl (by simp at h; exact h.1), Lib.hid HKQ.out.drew⟩
      have HGO := Lib.hid hgo
      have HMS : Hid (wq.drew.rangeLeft mi W.heap.size < wr.rangeLeft mi W.heap.size) := Lib.hid (by rw [(ranges_drew HRQ.out).left_eq, HLF.out]; exact HLT.out)
      clear hgo
      by_cases h0 : kind = 0
      · have HK0 := Lib.hid h0
        clear h0
        have HS0 : Below wq.heap.size wq wq.drew := (Below.refl _ wq).drew
        refine wp_region_L (S := fun W => Below wq.heap.size wq W) (f := 14) (by kernel_rfl) ?_
        refine wpAnyL_take (i := 0) (some 14) (v := .pointer (some ⟨p, 0, none⟩)) rfl rfl (by kernel_rfl) (by kernel_rfl) (by kernel_rfl) (by kernel_rfl) (fun _ _ _ h => h) (by rfl) (fun W hS => ?_) HS0 ?_
        · go_simp
        try simp only [Act.put, List.setIfInBounds_toArray, List.set_cons_zero, List.set_cons_succ]
        refine wpAnyL_take (i := 1) (some 15) (v := .pointer (some ⟨p, 0, none⟩)) rfl rfl (by kernel_rfl) (by kernel_rfl) (by kernel_rfl) (by kernel_rfl) (fun _ _ _ h => h) (by rfl) (fun W hS => ?_) HS0 ?_
        · go_simp
        try simp only [Act.put, List.setIfInBounds_toArray, List.set_cons_zero, List.set_cons_succ]
        refine wpAnyL_take (i := 2) (some 16) (v := .pointer (some ⟨p, 2, none⟩)) rfl rfl (by kernel_rfl) (by kernel_rfl) (by kernel_rfl) (by kernel_rfl) (fun _ _ _ h => h) (by rfl) (fun W hS => ?_) HS0 ?_
        · go_simp
        try simp only [Act.put, List.setIfInBounds_toArray, List.set_cons_zero, List.set_cons_succ]
        refine wpAnyL_take (i := 3) (some 17) (v := .int .i64 kind) rfl rfl (by kernel_rfl) (by kernel_rfl) (by kernel_rfl) (by kernel_rfl) (fun _ _ _ h => h) (by rfl) (fun W hS => ?_) HS0 ?_
        · have m0 := (hS.cell (p := ⟨p, 2, none⟩) hplq).trans q2q
          go_simp
        try simp only [Act.put, List.setIfInBounds_toArray, List.set_cons_zero, List.set_cons_succ]
        refine wpAnyL_take (i := 4) (some 18) (v := .bool false) rfl rfl (by kernel_rfl) (by kernel_rfl) (by kernel_rfl) (by kernel_rfl) (fun _ _ _ h => h) (by rfl) (fun W hS => ?_) HS0 ?_
        · go_simp
          exact HK0.out
        try simp only [Act.put, List.setIfInBounds_toArray, List.set_cons_zero, List.set_cons_succ]
        refine wpAnyL_take (i := 5) (some 19) (v := .bool false) rfl rfl (by kernel_rfl) (by kernel_rfl) (by kernel_rfl) (by kernel_rfl) (fun _ _ _ h => h) (by rfl) (fun W hS => ?_) HS0 ?_
        · go_simp
        try simp only [Act.put, List.setIfInBounds_toArray, List.set_cons_zero, List.set_cons_succ]
        refine wpAnyL_pass (i := 6) (some 20) rfl rfl (by kernel_rfl) (by kernel_rfl) (by kernel_rfl) (by kernel_rfl) (fun _ _ _ h => h) (by rfl) HS0 ?_
        try simp only [Act.put, List.setIfInBounds_toArray, List.set_cons_zero, List.set_cons_succ]
        refine wpAnyL_pass (i := 7) (some 21) rfl rfl (by kernel_rfl) (by kernel_rfl) (by kernel_rfl) (by kernel_rfl) (fun _ _ _ h => h) (by rfl) HS0 ?_
        try simp only [Act.put, List.setIfInBounds_toArray, List.set_cons_zero, List.set_cons_succ]
        refine wpAnyL_pass (i := 8) (some 22) rfl rfl (by kernel_rfl) (by kernel_rfl) (by kernel_rfl) (by kernel_rfl) (fun _ _ _ h => h) (by rfl) HS0 ?_
        try simp only [Act.put, List.setIfInBounds_toArray, List.set_cons_zero, List.set_cons_succ]
        refine wpAnyL_pass (i := 9) (some 23) rfl rfl (by kernel_rfl) (by kernel_rfl) (by kernel_rfl) (by kernel_rfl) (fun _ _ _ h => h) (by rfl) HS0 ?_
        try simp only [Act.put, List.setIfInBounds_toArray, List.set_cons_zero, List.set_cons_succ]
        refine wpAnyL_pass (i := 10) (some 24) rfl rfl (by kernel_rfl) (by kernel_rfl) (by kernel_rfl) (by kernel_rfl) (fun _ _ _ h => h) (by rfl) HS0 ?_
        try simp only [Act.put, List.setIfInBounds_toArray, List.set_cons_zero, List.set_cons_succ]
        refine wpAnyL_pass (i := 11) (some 25) rfl rfl (by kernel_rfl) (by kernel_rfl) (by kernel_rfl) (by kernel_rfl) (fun _ _ _ h => h) (by rfl) HS0 ?_
        try simp only [Act.put, List.setIfInBounds_toArray, List.set_cons_zero, List.set_cons_succ]
        refine wpAnyL_pass (i := 12) (some 26) rfl rfl (by kernel_rfl) (by kernel_rfl) (by kernel_rfl) (by kernel_rfl) (fun _ _ _ h => h) (by rfl) HS0 ?_
        try simp only [Act.put, List.setIfInBounds_toArray, List.set_cons_zero, List.set_cons_succ]
        refine wpAnyL_one (j := 13) (by kernel_rfl) rfl (by rfl) (fun K hK => ?_)
        go_simp
        refine hK _ _ (fun _ => HS0) ?_
        clear hK K
        try simp only [Act.put, List.setIfInBounds_toArray, List.set_cons_zero, List.set_cons_succ]
        refine wpAnyL_done (by kernel_rfl) ?_ _
        go_wp2
        go_roundw
        case rel => exact HGO.out (.inl HK0.out)
        case measure => exact HMS.out
      · have HK0 := Lib.hid h0
        clear h0
        by_cases h1 : k = kind
        · have HK1 := Lib.hid h1
          clear h1
          have HS0 : Below wq.heap.size wq wq.drew := (Below.refl _ wq).drew
          refine wp_region_L (S := fun W => Below wq.heap.size wq W) (f := 14) (by kernel_rfl) ?_
          refine wpAnyL_take (i := 0) (some 14) (v := .pointer (some ⟨p, 0, none⟩)) rfl rfl (by kernel_rfl) (by kernel_rfl) (by kernel_rfl) (by kernel_rfl) (fun _ _ _ h => h) (by rfl) (fun W hS => ?_) HS0 ?_
          · go_simp
          try simp only [Act.put, List.setIfInBounds_toArray, List.set_cons_zero, List.set_cons_succ]
          refine wpAnyL_take (i := 1) (some 15) (v := .pointer (some ⟨p, 0, none⟩)) rfl rfl (by kernel_rfl) (by kernel_rfl) (by kernel_rfl) (by kernel_rfl) (fun _ _ _ h => h) (by rfl) (fun W hS => ?_) HS0 ?_
          · go_simp
          try simp only [Act.put, List.setIfInBounds_toArray, List.set_cons_zero, List.set_cons_succ]
          refine wpAnyL_take (i := 2) (some 16) (v := .pointer (some ⟨p, 2, none⟩)) rfl rfl (by kernel_rfl) (by kernel_rfl) (by kernel_rfl) (by kernel_rfl) (fun _ _ _ h => h) (by rfl) (fun W hS => ?_) HS0 ?_
          · go_simp
          try simp only [Act.put, List.setIfInBounds_toArray, List.set_cons_zero, List.set_cons_succ]
          refine wpAnyL_take (i := 3) (some 17) (v := .int .i64 kind) rfl rfl (by kernel_rfl) (by kernel_rfl) (by kernel_rfl) (by kernel_rfl) (fun _ _ _ h => h) (by rfl) (fun W hS => ?_) HS0 ?_
          · have m0 := (hS.cell (p := ⟨p, 2, none⟩) hplq).trans q2q
            go_simp
          try simp only [Act.put, List.setIfInBounds_toArray, List.set_cons_zero, List.set_cons_succ]
          refine wpAnyL_take (i := 4) (some 18) (v := .bool true) rfl rfl (by kernel_rfl) (by kernel_rfl) (by kernel_rfl) (by kernel_rfl) (fun _ _ _ h => h) (by rfl) (fun W hS => ?_) HS0 ?_
          · go_simp
            exact HK0.out
          try simp only [Act.put, List.setIfInBounds_toArray, List.set_cons_zero, List.set_cons_succ]
          refine wpAnyL_take (i := 5) (some 19) (v := .bool true) rfl rfl (by kernel_rfl) (by kernel_rfl) (by kernel_rfl) (by kernel_rfl) (fun _ _ _ h => h) (by rfl) (fun W hS => ?_) HS0 ?_
          · go_simp
          try simp only [Act.put, List.setIfInBounds_toArray, List.set_cons_zero, List.set_cons_succ]
          refine wpAnyL_take (i := 6) (some 20) (v := .pointer (some ⟨B, 0, none⟩)) rfl rfl (by kernel_rfl) (by kernel_rfl) (by kernel_rfl) (by kernel_rfl) (fun _ _ _ h => h) (by rfl) (fun W hS => ?_) HS0 ?_
          · go_simp
          try simp only [Act.put, List.setIfInBounds_toArray, List.set_cons_zero, List.set_cons_succ]
          refine wpAnyL_take (i := 7) (some 21) (v := .int .i64 k) rfl rfl (by kernel_rfl) (by kernel_rfl) (by kernel_rfl) (by kernel_rfl) (fun _ _ _ h => h) (by rfl) (fun W hS => ?_) HS0 ?_
          · have m0 := (hS.cell (p := ⟨B, 0, none⟩) hBl).trans x0
            go_simp
          try simp only [Act.put, List.setIfInBounds_toArray, List.set_cons_zero, List.set_cons_succ]
          refine wpAnyL_take (i := 8) (some 22) (v := .pointer (some ⟨p, 0, none⟩)) rfl rfl (by kernel_rfl) (by kernel_rfl) (by kernel_rfl) (by kernel_rfl) (fun _ _ _ h => h) (by rfl) (fun W hS => ?_) HS0 ?_
          · go_simp
          try simp only [Act.put, List.setIfInBounds_toArray, List.set_cons_zero, List.set_cons_succ]
          refine wpAnyL_take (i := 9) (some 23) (v := .pointer (some ⟨p, 0, none⟩)) rfl rfl (by kernel_rfl) (by kernel_rfl) (by kernel_rfl) (by kernel_rfl) (fun _ _ _ h => h) (by rfl) (fun W hS => ?_) HS0 ?_
          · go_simp
          try simp only [Act.put, List.setIfInBounds_toArray, List.set_cons_zero, List.set_cons_succ]
          refine wpAnyL_take (i := 10) (some 24) (v := .pointer (some ⟨p, 2, none⟩)) rfl rfl (by kernel_rfl) (by kernel_rfl) (by kernel_rfl) (by kernel_rfl) (fun _ _ _ h => h) (by rfl) (fun W hS => ?_) HS0 ?_
          · go_simp
          try simp only [Act.put, List.setIfInBounds_toArray, List.set_cons_zero, List.set_cons_succ]
          refine wpAnyL_take (i := 11) (some 25) (v := .int .i64 kind) rfl rfl (by kernel_rfl) (by kernel_rfl) (by kernel_rfl) (by kernel_rfl) (fun _ _ _ h => h) (by rfl) (fun W hS => ?_) HS0 ?_
          · have m0 := (hS.cell (p := ⟨p, 2, none⟩) hplq).trans q2q
            go_simp
          try simp only [Act.put, List.setIfInBounds_toArray, List.set_cons_zero, List.set_cons_succ]
          refine wpAnyL_take (i := 12) (some 26) (v := .bool false) rfl rfl (by kernel_rfl) (by kernel_rfl) (by kernel_rfl) (by kernel_rfl) (fun _ _ _ h => h) (by rfl) (fun W hS => ?_) HS0 ?_
          · go_simp
            exact HK1.out
          try simp only [Act.put, List.setIfInBounds_toArray, List.set_cons_zero, List.set_cons_succ]
          refine wpAnyL_one (j := 13) (by kernel_rfl) rfl (by rfl) (fun K hK => ?_)
          go_simp
          refine hK _ _ (fun _ => HS0) ?_
          clear hK K
          try simp only [Act.put, List.setIfInBounds_toArray, List.set_cons_zero, List.set_cons_succ]
          refine wpAnyL_done (by kernel_rfl) ?_ _
          go_wp2
          go_roundw
          case rel => exact HGO.out (.inr HK1.out)
          case measure => exact HMS.out
        · have HK1 := Lib.hid h1
          clear h1
          have HS0 : Below wq.heap.size wq wq.drew := (Below.refl _ wq).drew
          refine wp_region_L (S := fun W => Below wq.heap.size wq W) (f := 14) (by kernel_rfl) ?_
          refine wpAnyL_take (i := 0) (some 14) (v := .pointer (some ⟨p, 0, none⟩)) rfl rfl (by kernel_rfl) (by kernel_rfl) (by kernel_rfl) (by kernel_rfl) (fun _ _ _ h => h) (by rfl) (fun W hS => ?_) HS0 ?_
          · go_simp
          try simp only [Act.put, List.setIfInBounds_toArray, List.set_cons_zero, List.set_cons_succ]
          refine wpAnyL_take (i := 1) (some 15) (v := .pointer (some ⟨p, 0, none⟩)) rfl rfl (by kernel_rfl) (by kernel_rfl) (by kernel_rfl) (by kernel_rfl) (fun _ _ _ h => h) (by rfl) (fun W hS => ?_) HS0 ?_
          · go_simp
          try simp only [Act.put, List.setIfInBounds_toArray, List.set_cons_zero, List.set_cons_succ]
          refine wpAnyL_take (i := 2) (some 16) (v := .pointer (some ⟨p, 2, none⟩)) rfl rfl (by kernel_rfl) (by kernel_rfl) (by kernel_rfl) (by kernel_rfl) (fun _ _ _ h => h) (by rfl) (fun W hS => ?_) HS0 ?_
          · go_simp
          try simp only [Act.put, List.setIfInBounds_toArray, List.set_cons_zero, List.set_cons_succ]
          refine wpAnyL_take (i := 3) (some 17) (v := .int .i64 kind) rfl rfl (by kernel_rfl) (by kernel_rfl) (by kernel_rfl) (by kernel_rfl) (fun _ _ _ h => h) (by rfl) (fun W hS => ?_) HS0 ?_
          · have m0 := (hS.cell (p := ⟨p, 2, none⟩) hplq).trans q2q
            go_simp
          try simp only [Act.put, List.setIfInBounds_toArray, List.set_cons_zero, List.set_cons_succ]
          refine wpAnyL_take (i := 4) (some 18) (v := .bool true) rfl rfl (by kernel_rfl) (by kernel_rfl) (by kernel_rfl) (by kernel_rfl) (fun _ _ _ h => h) (by rfl) (fun W hS => ?_) HS0 ?_
          · go_simp
            exact HK0.out
          try simp only [Act.put, List.setIfInBounds_toArray, List.set_cons_zero, List.set_cons_succ]
          refine wpAnyL_take (i := 5) (some 19) (v := .bool true) rfl rfl (by kernel_rfl) (by kernel_rfl) (by kernel_rfl) (by kernel_rfl) (fun _ _ _ h => h) (by rfl) (fun W hS => ?_) HS0 ?_
          · go_simp
          try simp only [Act.put, List.setIfInBounds_toArray, List.set_cons_zero, List.set_cons_succ]
          refine wpAnyL_take (i := 6) (some 20) (v := .pointer (some ⟨B, 0, none⟩)) rfl rfl (by kernel_rfl) (by kernel_rfl) (by kernel_rfl) (by kernel_rfl) (fun _ _ _ h => h) (by rfl) (fun W hS => ?_) HS0 ?_
          · go_simp
          try simp only [Act.put, List.setIfInBounds_toArray, List.set_cons_zero, List.set_cons_succ]
          refine wpAnyL_take (i := 7) (some 21) (v := .int .i64 k) rfl rfl (by kernel_rfl) (by kernel_rfl) (by kernel_rfl) (by kernel_rfl) (fun _ _ _ h => h) (by rfl) (fun W hS => ?_) HS0 ?_
          · have m0 := (hS.cell (p := ⟨B, 0, none⟩) hBl).trans x0
            go_simp
          try simp only [Act.put, List.setIfInBounds_toArray, List.set_cons_zero, List.set_cons_succ]
          refine wpAnyL_take (i := 8) (some 22) (v := .pointer (some ⟨p, 0, none⟩)) rfl rfl (by kernel_rfl) (by kernel_rfl) (by kernel_rfl) (by kernel_rfl) (fun _ _ _ h => h) (by rfl) (fun W hS => ?_) HS0 ?_
          · go_simp
          try simp only [Act.put, List.setIfInBounds_toArray, List.set_cons_zero, List.set_cons_succ]
          refine wpAnyL_take (i := 9) (some 23) (v := .pointer (some ⟨p, 0, none⟩)) rfl rfl (by kernel_rfl) (by kernel_rfl) (by kernel_rfl) (by kernel_rfl) (fun _ _ _ h => h) (by rfl) (fun W hS => ?_) HS0 ?_
          · go_simp
          try simp only [Act.put, List.setIfInBounds_toArray, List.set_cons_zero, List.set_cons_succ]
          refine wpAnyL_take (i := 10) (some 24) (v := .pointer (some ⟨p, 2, none⟩)) rfl rfl (by kernel_rfl) (by kernel_rfl) (by kernel_rfl) (by kernel_rfl) (fun _ _ _ h => h) (by rfl) (fun W hS => ?_) HS0 ?_
          · go_simp
          try simp only [Act.put, List.setIfInBounds_toArray, List.set_cons_zero, List.set_cons_succ]
          refine wpAnyL_take (i := 11) (some 25) (v := .int .i64 kind) rfl rfl (by kernel_rfl) (by kernel_rfl) (by kernel_rfl) (by kernel_rfl) (fun _ _ _ h => h) (by rfl) (fun W hS => ?_) HS0 ?_
          · have m0 := (hS.cell (p := ⟨p, 2, none⟩) hplq).trans q2q
            go_simp
          try simp only [Act.put, List.setIfInBounds_toArray, List.set_cons_zero, List.set_cons_succ]
          refine wpAnyL_take (i := 12) (some 26) (v := .bool true) rfl rfl (by kernel_rfl) (by kernel_rfl) (by kernel_rfl) (by kernel_rfl) (fun _ _ _ h => h) (by rfl) (fun W hS => ?_) HS0 ?_
          · go_simp
            exact HK1.out
          try simp only [Act.put, List.setIfInBounds_toArray, List.set_cons_zero, List.set_cons_succ]
          refine wpAnyL_one (j := 13) (by kernel_rfl) rfl (by rfl) (fun K hK => ?_)
          go_simp
          refine hK _ _ (fun _ => HS0) ?_
          clear hK K
          try simp only [Act.put, List.setIfInBounds_toArray, List.set_cons_zero, List.set_cons_succ]
          refine wpAnyL_done (by kernel_rfl) ?_ _
          go_wp2
          go_ret
          refine ⟨false, rfl, ⟨fun h => (by cases h), fun h => ?_⟩, HEND.out _ HS0⟩
          have := h x _ HI.out
          rw [HC.out.2.2] at this
          exact absurd this (by rintro (h | h); exact HK0.out h; exact HK1.out h)
end Go.Proofs.YtokcbcjonbjkgaaGreatDoor
namespace Go.Proofs.YtokcbcjonbjkgaaGreatDoor
open Go.RowKit Go.Shelf
attribute [local go_sem] Oper.semAt_some
set_option linter.unusedVariables false
set_option linter.unusedSimpArgs false

/-- one number more. -/
theorem Cl.At.addNum {c : Cl} {w0 W w1 : World} (h : c.At w0 W) {o : Obj} {g cap : Nat} {n : Int} (hown : w1.ownsRow w0.heap.size 3 1 (.slice (some ⟨g, 0, none⟩) (c.ns.length + 1) cap) (c.ns.length + 1) (c.ns.map (Value.int .i64) ++ [.int .i64 n])) (hgr : (W.alloc o).grownBy w1 c.nv.ownBlock)
    (hat : c.nv.ownBlock = some g ∨ g = (W.alloc o).heap.size) (hl : c.ns.length < 1000) :
    ({ c with nv := .slice (some ⟨g, 0, none⟩) (c.ns.length + 1) cap, ns := c.ns ++ [n] } : Cl).At w0 (w1.setCell ⟨c.p, 3, none⟩ (.slice (some ⟨g, 0, none⟩) (c.ns.length + 1) cap)) := by
  have hk1 : Keeps (fun k => c.nv.ownBlock ≠ some k) W w1 := ((Keeps.refl _ W).alloc o).trans (Keeps.of_grown hgr fun r e h => h e)
  have hk2 : Keeps (fun k => k ≠ c.p) w1 (w1.setCell ⟨c.p, 3, none⟩ (.slice (some ⟨g, 0, none⟩) (c.ns.length + 1) cap)) := setCell_keeps _ _ _ _
  have hO : Keeps (fun k => ¬ c.own k) W (w1.setCell ⟨c.p, 3, none⟩ (.slice (some ⟨g, 0, none⟩) (c.ns.length + 1) cap)) := (hk1.mono fun k _ ho e => ho (.inr (.inr (.inr (.inr e))))).trans (hk2.mono fun k _ ho e => ho (.inl e))
  have hp1 : w1.heap[c.p]? = some (.cells c.cells.toArray 84 (0, 0)) := hk1.heap h.hp h.nne.1
  have hgne : g ≠ c.p := fun e => by
    obtain ⟨_, cur, hg⟩ := ownsRow_blk hown g rfl
    rw [e, hp1] at hg
    injection hg with hg
    injection hg with h1 h2
    exact absurd h2 (by decide)
  have ho : ∀ x, ({ c with nv := .slice (some ⟨g, 0, none⟩) (c.ns.length + 1) cap, ns := c.ns ++ [n] } : Cl).own x → c.own x ∨ W.heap.size ≤ x := by
    rintro x (e | e | e | e | e)
    · exact .inl (.inl e)
    · exact .inl (.inr (.inl e))
    · exact .inl (.inr (.inr (.inl e)))
    · exact .inl (.inr (.inr (.inr (.inl e))))
    · have e2 : g = x := by injection e
      subst e2
      rcases hat with hat | hat
      · exact .inl (.inr (.inr (.inr (.inr hat))))
      · rw [World.size_alloc] at hat
        exact .inr (by omega)
  exact { h with
    hp := by simp [World.setCell, Array.getElem?_modify, hp1, Cl.cells]
    hb := h.hb.heap ((hk2.block _ (Nat.lt_of_lt_of_le h.lt.2.1 hk1.size) fun e => h.ne.1 e.symm).trans (hk1.block _ h.lt.2.1 h.nne.2.1))
    hi := h.hi.heap ((hk2.block _ (Nat.lt_of_lt_of_le h.lt.2.2 hk1.size) fun e => h.ne.2 e.symm).trans (hk1.block _ h.lt.2.2 h.nne.2.2.1))
    hW := h.words hO
    hk := ownsRow_keep h.hk fun g e => (hk2.block g (Nat.lt_of_lt_of_le (h.hk.lt g e).2 hk1.size) fun e2 => h.kne.1 (e2 ▸ e)).trans (hk1.block g (h.hk.lt g e).2 fun e2 => h.nne.2.2.2 g e2 e)
    hn := by
      have := ownsRow_keep hown fun x e => hk2.block x (hown.lt x e).2 fun e2 => hgne (by cases e; exact e2)
      simpa using this
    kb := h.kb.kept hO (fun x hx => hx.elim (fun h1 => (ho x h1).imp .inl id) fun h1 => .inl (.inr h1))
    ki := h.ki.kept hO (fun x hx => hx.elim (fun h1 => (ho x h1).imp .inl id) fun h1 => .inl (.inr h1))
    rsl := fun g hg => Nat.lt_of_lt_of_le (h.rsl g hg) hO.size
    bel := h.below hO
    nsl := by simp; omega }

/-- text.Number's contract. -/
def NumC : Prop := ∀ (s : List UInt8) (W : World), s.length ≤ 1000000 → Calls Tryz.prog 44 #[.string ⟨s.toArray⟩] W fun e W' => e = .returned (.tuple #[.int .i64 (Tx.numS s).1, .bool (Tx.numS s).2]) ∧ W = W'
/-- what read tells. -/
def ReadOut (w0 : World) (c : Cl) (ids : List Nat) (W0 : World) (e : Ending) (W : World) : Prop :=
  Keeps (fun k => ¬ c.own k) W0 W ∧ ∃ nv ns, ({ c with nv := nv, ns := ns } : Cl).At w0 W ∧ match Ec.readN c.ws ids with
    | some l => e = .returned (.bool true) ∧ ns = l
    | none => e = .returned (.bool false)
theorem read_none (c : Cl) (w0 W : World) (h : c.At w0 W) (hns : c.ns = []) : Calls Tryz.prog 32 #[.pointer (some ⟨c.p, 0, none⟩), .slice none 0 0] W (ReadOut w0 c [] W) := by
  have H := Lib.hid h
  have HN := Lib.hid hns
  clear h hns
  generalize hp : c.p = p
  clear hp
  go_enter Tryz.func32, Tryz.ntmps32
  go_wp2
  go_loopw [11] (fun i wr => i = .int .i64 0 ∧ wr = W) (fun i _ => 0)
  case atStart => exact ⟨rfl, rfl⟩
  case round =>
    obtain ⟨rfl, rfl⟩ := hrel
    go_wp2
    go_ret
    exact ⟨Keeps.refl _ _, c.nv, c.ns, H.out, rfl, HN.out⟩

theorem readN_take {ws : List (List UInt8)} : ∀ {ids : List Nat} {j : Nat}, j < ids.length → (Tx.numS (ws.getD (ids.getD j 0) [])).2 = false → Ec.readN ws ids = none
  | i :: l, 0, _, h => by
    have h' : (Tx.numS (ws.getD i [])).2 = false := by simpa using h
    simp only [Ec.readN]
    rw [if_neg (by rw [h']; decide)]
  | i :: l, j + 1, hj, h => by
    simp only [Ec.readN]
    split
    · rw [readN_take (ids := l) (j := j) (by simpa using hj) (by simpa using h)]
      rfl
    · rfl
theorem readN_snoc {ws : List (List UInt8)} : ∀ {l : List Nat} {r : List Int} {i : Nat}, Ec.readN ws l = some r → (Tx.numS (ws.getD i [])).2 = true → Ec.readN ws (l ++ [i]) = some (r ++ [(Tx.numS (ws.getD i [])).1])
  | [], r, i, h, h2 => by
    simp only [Ec.readN] at h
    cases h
    simp only [List.nil_append, Ec.readN]
    rw [if_pos h2]
    rfl
  | j :: l, r, i, h, h2 => by
    simp only [Ec.readN, List.cons_append] at h ⊢
    split at h
    · rename_i hj
      rw [if_pos hj]
      obtain ⟨r', hr', rfl⟩ := Option.map_eq_some_iff.1 h
      rw [readN_snoc hr' h2]
      rfl
    · cases h

set_option maxRecDepth 100000 in
set_option maxHeartbeats 8000000 in
theorem read_any (c : Cl) (w0 W : World) (b : Nat) (ids : List Nat) (h : c.At w0 W) (hns : c.ns = []) (hnv : c.nv = .slice none 0 0) (hN : NumsIn W (some b) ids) (hj : ∀ j ∈ ids, j < c.ws.length) (hl : ids.length ≤ 10) (hNum : ids ≠ [] → NumC) :
    Calls Tryz.prog 32 #[.pointer (some ⟨c.p, 0, none⟩), .slice (some ⟨b, 0, none⟩) ids.length ids.length] W (ReadOut w0 c ids W) := by
  obtain ⟨iS, hiS, hiS0, hiS1, hiS2⟩ := info_parts (show (Tryz.prog.info? 3).map (fun i => (i.zero, i.size, i.bytes)) = some (some (.int .i64 0), 1, 8) by kernel_rfl)
  have hb : b < W.heap.size := (Array.getElem?_eq_some_iff.1 hN).1
  have hbp : b ≠ c.p := by
    rintro rfl
    have hN2 : W.heap[c.p]? = some (.cells (ids.map fun (i : Nat) => Value.int .i64 (i : Int)).toArray 3 (0, 0)) := hN
    rw [h.hp] at hN2
    injection hN2 with h1
    injection h1 with h1 h2
    exact absurd h2 (by decide)
  have hbo : ¬ c.own b := by
    rintro (e | rfl | rfl | e | e)
    · exact hbp e
    · obtain ⟨es, cl, hm⟩ := h.hb.obj
      have hN2 : W.heap[c.mb]? = some (.cells (ids.map fun (i : Nat) => Value.int .i64 (i : Int)).toArray 3 (0, 0)) := hN
      rw [hm] at hN2; cases hN2
    · obtain ⟨es, cl, hm⟩ := h.hi.obj
      have hN2 : W.heap[c.mi]? = some (.cells (ids.map fun (i : Nat) => Value.int .i64 (i : Int)).toArray 3 (0, 0)) := hN
      rw [hm] at hN2; cases hN2
    · obtain ⟨_, cur, hg⟩ := ownsRow_blk h.hk _ e
      have hN2 : W.heap[b]? = some (.cells (ids.map fun (i : Nat) => Value.int .i64 (i : Int)).toArray 3 (0, 0)) := hN
      rw [hg] at hN2
      injection hN2 with h1
      injection h1 with h1 h2
      exact absurd h2 (by decide)
    · rw [hnv] at e; cases e
  have HBO := Lib.hid hbo
  have H := Lib.hid h
  have HNS := Lib.hid hns
  have HNV := Lib.hid hnv
  have HN := Lib.hid hN
  have HJ := Lib.hid hj
  have HNUM := Lib.hid hNum
  have hlI : (ids.length : Int) ≤ 10 := by omega
  have hws := h.wsl.1
  have hwl := h.wsl.2
  have HWL := Lib.hid hwl
  obtain ⟨p, hp⟩ : ∃ p, c.p = p := ⟨_, rfl⟩
  have HP := Lib.hid hp
  rw [hp] at hbp ⊢
  clear h hns hnv hN hj hNum hwl hp hbo
  go_enter Tryz.func32, Tryz.ntmps32
  go_wp2
  go_loopw [6, 7, 8, 11] (fun _ _ _ i wr => ∃ n : Nat, n ≤ ids.length ∧ i = .int .i64 n ∧ Hid (∃ nv ns, ({ c with nv := nv, ns := ns } : Cl).At w0 wr ∧ Ec.readN c.ws (ids.take n) = some ns ∧ ns.length ≤ n ∧ (∀ g, nv.ownBlock = some g → W.heap.size ≤ g) ∧ Keeps (fun k => ¬ c.own k) W wr)) (fun _ _ _ i _ => ids.length - (intOf i).toNat)
  case atStart => exact ⟨0, Nat.zero_le _, rfl, Lib.hid ⟨c.nv, c.ns, H.out, by rw [HNS.out]; rfl, by rw [HNS.out]; simp, fun g e => (by rw [HNV.out] at e; cases e), Keeps.refl _ _⟩⟩
  case round =>
    obtain ⟨n, hn, rfl, HI⟩ := hrel
    by_cases hlt : n < ids.length
    · obtain ⟨nv, ns, hA, hr, hnl, hnb, hk⟩ := HI.out
      have hbw := hk.heap HN.out HBO.out
      have qi : wr.cell? ⟨b, n, none⟩ = some (.int .i64 ((ids.getD n 0 : Nat) : Int)) := by
        rw [cell_of_row _ _ _ _ 3 (0, 0) hbw]
        simp [List.getD, hlt]
      have hjn : ids.getD n 0 < c.ws.length := HJ.out _ (by simp [List.getD, hlt])
      have HX : Hid (ids.take (n + 1) = ids.take n ++ [ids.getD n 0]) := Lib.hid (by rw [List.take_succ_eq_append_getElem hlt]; congr 2; simp [List.getD, hlt])
      have HG : Hid (∀ v, ids.getD n 0 = v → (Tx.numS (c.ws.getD v [])).2 = false → Ec.readN c.ws ids = none) := Lib.hid fun v hv h => readN_take hlt (by rw [hv]; exact h)
      obtain ⟨j, hj⟩ : ∃ j, ids.getD n 0 = j := ⟨_, rfl⟩
      rw [hj] at qi hjn HX
      have HGj := Lib.hid (HG.out j hj)
      clear hj HG
      obtain ⟨q0, -, -, q3, -, -, -, -⟩ := hA.cell
      simp only at q0 q3
      rw [HP.out] at q0 q3
      obtain ⟨wb, wo, hwa, hwbl, hwc⟩ := hA.hW.get (by show 0 < c.ws.length; omega)
      simp only at hwa hwc
      rw [hwa] at q0
      have qw := hwc j hjn
      obtain ⟨s, hs⟩ : ∃ s, c.ws.getD j [] = s := ⟨_, rfl⟩
      have hsl : s.length ≤ 1000000 := by rw [← hs]; exact HWL.out _ (by simp [List.getD, hjn])
      rw [hs] at qw HGj
      have HSJ := Lib.hid hs
      have hf3 : wr.frozen? ⟨p, 3, none⟩ = false := by rw [← HP.out]; exact hA.free 3 (by omega)
      have hpl : p < wr.heap.size := by rw [← HP.out]; exact hA.lt.1
      have HA := Lib.hid hA
      have HR := Lib.hid hr
      have HNL := Lib.hid hnl
      have HNB := Lib.hid hnb
      have HK := Lib.hid hk
      have HNC := Lib.hid (fun W' => HNUM.out (by rintro rfl; simp at hlt) s W' hsl)
      have k0 : (0 : Int) ≤ (n : Int) := by omega
      have k1 : (n : Int) < (ids.length : Int) := by omega
      have k2 : (j : Int) < (c.ws.length : Int) := by omega
      have k3 : (0 : Int) ≤ (j : Int) := by omega
      clear hA hr hnb hk hwa hwc hs hbw hwbl
      have hnvs : ∃ na nc, nv = .slice na ns.length nc := by
        obtain ⟨_, ho⟩ := HA.out.hn
        rcases ho with ⟨h1, h2⟩ | ⟨g, cp, cur, h1, -⟩
        · have h2' : ns.length = 0 := h2
          exact ⟨none, 0, by rw [h2']; exact h1⟩
        · exact ⟨_, _, h1⟩
      obtain ⟨na, nc, hnvs⟩ := hnvs
      have HNVS := Lib.hid hnvs
      rw [hnvs] at q3
      clear hnvs
      cases hok : (Tx.numS s).2 with
      | false =>
        rw [hok] at HNC
        have HF := Lib.hid (HGj.out hok)
        clear hok
        go_wp2_with (go_at_call 44; refine (HNC.out _).mono ?_; rintro e w1 ⟨rfl, rfl⟩)
        go_ret
        exact ⟨HK.out, nv, ns, HA.out, by rw [HF.out]; rfl⟩
      | true =>
        rw [hok] at HNC
        have HOK := Lib.hid hok
        clear hok
        obtain ⟨v, hv⟩ : ∃ v, (Tx.numS s).1 = v := ⟨_, rfl⟩
        rw [hv] at HNC
        have HV := Lib.hid hv
        clear hv
        have hnl2 : ns.length ≤ 10 := by omega
        have happ : ∀ (g cap3 : Nat) (w4 : World), w4.ownsRow w0.heap.size 3 1 (.slice (some ⟨g, 0, none⟩) (ns.length + 1) cap3) (ns.length + 1) (ns.map (Value.int .i64) ++ [.int .i64 v]) → (wr.alloc (.cells #[.int .i64 v] 3)).grownBy w4 (Value.slice na ns.length nc).ownBlock → ((Value.slice na ns.length nc).ownBlock = some g ∨ g = (wr.alloc (.cells #[.int .i64 v] 3)).heap.size) →
            w4.cell? ⟨p, 3, none⟩ = some (.slice na ns.length nc) ∧ w4.frozen? ⟨p, 3, none⟩ = false ∧ Hid (({ c with nv := .slice (some ⟨g, 0, none⟩) (ns.length + 1) cap3, ns := ns ++ [v] } : Cl).At w0 (w4.setCell ⟨p, 3, none⟩ (.slice (some ⟨g, 0, none⟩) (ns.length + 1) cap3))) ∧ Hid (W.heap.size ≤ g) ∧ Hid (Keeps (fun k => ¬ c.own k) W (w4.setCell ⟨p, 3, none⟩ (.slice (some ⟨g, 0, none⟩) (ns.length + 1) cap3))) := by
          intro g cap3 w4 hown hgrow hat
          rw [← HNVS.out] at hgrow hat
          have hk4 : Keeps (fun k => nv.ownBlock ≠ some k) wr w4 := ((Keeps.refl _ wr).alloc _).trans (Keeps.of_grown hgrow fun r e h => h e)
          have hkp : nv.ownBlock ≠ some p := by rw [← HP.out]; exact HA.out.nne.1
          have t4 := (hk4.cell (p := ⟨p, 3, none⟩) hpl hkp).trans q3
          have tf := (hk4.frozen (p := ⟨p, 3, none⟩) hpl hkp).trans hf3
          have hA2 := HA.out.addNum hown hgrow hat (by show ns.length < 1000; omega)
          refine ⟨t4, tf, Lib.hid (by rw [← HP.out]; exact hA2), Lib.hid ?_, Lib.hid ((HK.out.transIn hk4 fun x hx h e => by have := HNB.out x e; omega).setCell (p := ⟨p, 3, none⟩) (.inr fun h => h (.inl HP.out.symm)) _)⟩
          rcases hat with hat | hat
          · exact HNB.out g hat
          · rw [World.size_alloc] at hat
            have := HK.out.size
            omega
        have HAP := Lib.hid happ
        clear happ
        go_wp2_with (first
          | (go_at_call 44; refine (HNC.out _).mono ?_; rintro e w1 ⟨rfl, rfl⟩)
          | (at_builtin; refine wpList_append_lies _ rfl (.tmp 32) (.tmp 34) 55 rfl w0.heap.size 3 iS _ 1 8 Tryz.underlying55 hiS hiS0 hiS1 hiS2 rfl (by decide) (.slice na ns.length nc) ns.length (ns.map (Value.int .i64)) rfl (by rw [← HNVS.out]; exact HA.out.hn.alloc _) ⟨wr.heap.size, 0, none⟩ 1 1 [.int .i64 v] rfl rfl (row_news wr _ rfl _ _) (by simp [Value.oneCell']) (by decide) (by unfold maxLen; omega) (by omega) (by have := HA.out.bel.size; simp; omega) _ rfl ?_
             intro g cap3 w4 hown hgrow hat hl4
             obtain ⟨t4, tf, HA2, HG, HK4⟩ := HAP.out g cap3 w4 hown hgrow hat
             clear hown hgrow hat))
        go_roundw
        case rel => exact ⟨n + 1, by omega, by go_num, Lib.hid ⟨_, _, HA2.out, by rw [HX.out, ← HV.out, ← HSJ.out]; exact readN_snoc HR.out (by rw [HSJ.out]; exact HOK.out), by have := HNL.out; simp; omega, fun g' e => by cases e; exact HG.out, HK4.out⟩⟩
        case measure => simp [intOf]; omega
    · obtain rfl : n = ids.length := by omega
      have k1 : ¬ (ids.length : Int) < (ids.length : Int) := by omega
      rw [List.take_length] at HI
      go_wp2
      go_ret
      obtain ⟨nv, ns, hA, hr, -, -, hk⟩ := HI.out
      exact ⟨hk, nv, ns, hA, by rw [hr]; exact ⟨rfl, rfl⟩⟩
end Go.Proofs.YtokcbcjonbjkgaaGreatDoor
namespace Go.Proofs.YtokcbcjonbjkgaaGreatDoor
open Go.RowKit Go.Shelf
attribute [local go_sem] Oper.semAt_some
set_option linter.unusedVariables false
set_option linter.unusedSimpArgs false

/-- what a command's function tells. -/
def DoOut (w0 : World) (c : Cl) (r : Rp.R × Ec.St) (W0 : World) (e : Ending) (W : World) : Prop :=
  Keeps (fun k => ¬ c.own k) W0 W ∧ ∃ v it ni inv, e = .returned v ∧ ({ c with it := it, ni := ni, inv := inv } : Cl).At w0 W ∧ Rep (fun b => W0.heap.size ≤ b) W r.1 v ∧ (∀ k, it.i k = r.2.it k) ∧ inv = r.2.inv
/-- a command's function does what d says, where pre holds. -/
def DoC (fn : Nat) (pre : Cl → Prop) (d : Ec.Do) : Prop :=
  (∀ args w, (callFunc fn args).run Tryz.prog w = .ok (.enter fn args) w) ∧
  ∀ (w0 W : World) (c : Cl), c.At w0 W → c.inv = false → c.ni ≤ 1000 → pre c → Calls Tryz.prog fn #[.pointer (some ⟨c.p, 0, none⟩)] W (DoOut w0 c (d c.ws c.now c.kind c.ns c.ks ⟨c.it.i, false⟩) W)
/-- what follow tells. -/
def FollowOut (w0 : World) (c : Cl) (r : Rp.R × Ec.M) (W0 : World) (e : Ending) (W : World) : Prop :=
  ∃ v kind nv ns it ni inv, e = .returned v ∧ ({ c with kind := kind, nv := nv, ns := ns, it := it, ni := ni, inv := inv } : Cl).At w0 W ∧ Rep (fun b => W0.heap.size ≤ b) W r.1 v ∧ ∀ k, it.i k = r.2 k

theorem rep_flat {S : Nat → Prop} (W : World) (k : Int) (s : List UInt8) (n : Int) (hk : -9223372036854775808 ≤ k ∧ k ≤ 9223372036854775807) (hn : -9223372036854775808 ≤ n ∧ n ≤ 9223372036854775807) (hs : s.length ≤ 1000000) : Rep S W (.mk k s n []) (flatV k s n) :=
  Rep.intro ⟨hk.1, hk.2, hn.1, hn.2, by omega, Nat.zero_le _, Nat.zero_le _, by decide⟩ (.inl rfl)
theorem fits_plain (c : Cl) (kind : Int) (hdom : ∀ k i, c.it k = some i → k ∈ c.ks) : Ec.fits kind c.ks c.it.i = true ↔ FitsP { c with kind := kind } := by
  unfold Ec.fits FitsP
  rw [List.all_eq_true]
  constructor
  · intro h k i hi
    have h1 := h k (hdom k i hi)
    have h2 : c.it.i k = some i.i := by show (c.it k).map Li.i = _; rw [show c.it k = some i from hi]; rfl
    rw [h2] at h1
    exact of_decide_eq_true h1
  · intro h k hk
    show (match (c.it k).map Li.i with | some i => decide (kind = 0 ∨ i.kind = kind) | none => true) = true
    cases hi : c.it k with
    | none => rfl
    | some i =>
      exact decide_eq_true (h k i hi)

set_option maxRecDepth 100000 in
set_option maxHeartbeats 8000000 in
theorem follow_c (fn : Nat) (pre : Cl → Prop) (d : Ec.Do) (hdo : DoC fn pre d) (c : Cl) (w0 W : World) (kind : Int) (nm : List UInt8) (ids : List Nat) (na : Option Nat) (h : c.At w0 W) (h0 : c.ns = [] ∧ c.nv = .slice none 0 0 ∧ c.inv = false ∧ c.ni ≤ 1000)
    (hN : NumsIn W na ids) (hrd : ids = [] ∨ NumC) (hids : (∀ j ∈ ids, j < c.ws.length) ∧ ids.length ≤ 10) (hdom : ∀ k i, c.it k = some i → k ∈ c.ks)
    (hpre : ∀ nv ns rs, FitsP { c with kind := kind } → Ec.readN c.ws ids = some ns → pre { c with kind := kind, nv := nv, ns := ns, rs := rs }) :
    Calls Tryz.prog 20 #[.pointer (some ⟨c.p, 0, none⟩), rlV kind ⟨nm, ids, fn⟩ na] W (FollowOut w0 c (Ec.follow kind ids d c.ws c.now c.ks c.it.i) W) := by
  obtain ⟨p, hp⟩ : ∃ p, c.p = p := ⟨_, rfl⟩
  obtain ⟨w1, hw1⟩ : ∃ w1, W.alloc (.cells #[.string ⟨nm.toArray⟩, .int .i64 kind, numsV na ids.length, .func (.func fn) #[] #[]] 58) = w1 := ⟨_, rfl⟩
  obtain ⟨w2, hw2⟩ : ∃ w2, w1.alloc (.cells #[.int .i64 0, .string ⟨#[]⟩, .int .i64 0, .slice none 0 0] 26) = w2 := ⟨_, rfl⟩
  have hb1 : Below W.heap.size W w1 := by rw [← hw1]; exact (Below.refl _ _).alloc (Nat.le_refl _) _
  have hb2 : Below w1.heap.size w1 w2 := by rw [← hw2]; exact (Below.refl _ _).alloc (Nat.le_refl _) _
  have hr1 : w1.heap[W.heap.size]? = some (.cells #[.string ⟨nm.toArray⟩, .int .i64 kind, numsV na ids.length, .func (.func fn) #[] #[]] 58 (0, 0)) := by rw [← hw1]; exact World.alloc_heap_new _ _
  have hz1 : w1.heap.size = W.heap.size + 1 := by rw [← hw1]; simp
  have hr2 : w2.heap[W.heap.size]? = some (.cells #[.string ⟨nm.toArray⟩, .int .i64 kind, numsV na ids.length, .func (.func fn) #[] #[]] 58 (0, 0)) := (hb2.block _ (by omega)).trans hr1
  have hy2 : Rb w2 (W.heap.size + 1) 0 [] 0 none 0 0 := by rw [← hw2, ← hz1]; exact World.alloc_heap_new _ _
  have hbB : Below W.heap.size W w2 := hb1.trans (hb2.mono hb1.size)
  have hA2 := h.reserve hbB [W.heap.size + 1] (fun g hg => by rw [List.mem_singleton.1 hg]; exact ⟨by omega, hy2.lt⟩)
  have hN2 : NumsIn w2 na ids := hN.keep ((Keeps.of_below hb1 fun _ h _ => h).trans (Keeps.of_below hb2 fun _ h _ => h) : Keeps (fun _ => True) W w2) fun _ _ => trivial
  obtain ⟨-, -, q2, -, -, -, -, -⟩ := hA2.cell
  have f2 := hA2.free 2 (by omega)
  simp only at q2 f2
  have r1 : w2.cell? ⟨W.heap.size, 1, none⟩ = some (.int .i64 kind) := by simp [World.cell?, hr2]
  have hA3 := hA2.setKind kind
  rw [hp] at q2 f2 ⊢
  obtain ⟨w3, hw3⟩ : ∃ w3, w2.setCell ⟨p, 2, none⟩ (.int .i64 kind) = w3 := ⟨_, rfl⟩
  have hk3 : Keeps (fun k => k ≠ p) w2 w3 := by rw [← hw3]; exact setCell_keeps _ _ _ _
  obtain ⟨c3, hc3⟩ : ∃ c3 : Cl, ({ c with kind := kind, rs := (W.heap.size + 1) :: c.rs } : Cl) = c3 := ⟨_, rfl⟩
  have hA3' : c3.At w0 w3 := by rw [← hc3, ← hw3, ← hp]; exact hA3
  have hp3 : c3.p = p := by rw [← hc3]; exact hp
  have hpl : p < W.heap.size := by rw [← hp]; exact h.lt.1
  have hr3 := hk3.heap hr2 (by show W.heap.size ≠ p; omega)
  have hy3 : Rb w3 (W.heap.size + 1) 0 [] 0 none 0 0 := hk3.heap hy2 (by show W.heap.size + 1 ≠ p; omega)
  have hN3 : NumsIn w3 na ids := hN2.keep hk3 fun g hg e => by
    subst hg e
    have h1 : w2.heap[g]? = some (.cells (ids.map fun (i : Nat) => Value.int .i64 (i : Int)).toArray 3 (0, 0)) := hN2
    have h2 := hA2.hp
    simp only at h2
    rw [hp, h1] at h2
    injection h2 with h2
    injection h2 with h1 h2
    exact absurd h2 (by decide)
  have h0' : c3.ns = [] ∧ c3.nv = .slice none 0 0 ∧ c3.inv = false ∧ c3.ni ≤ 1000 ∧ c3.ws = c.ws := by rw [← hc3]; exact ⟨h0.1, h0.2.1, h0.2.2.1, h0.2.2.2, rfl⟩
  obtain ⟨an, nn, hnv⟩ : ∃ an nn, numsV na ids.length = .slice an nn nn := ⟨_, _, rfl⟩
  have hrc : ∀ w4, c3.At w0 w4 → NumsIn w4 na ids → Calls Tryz.prog 32 #[.pointer (some ⟨p, 0, none⟩), .slice an nn nn] w4 (ReadOut w0 c3 ids w4) := fun w4 h4 hn4 => by
    cases na with
    | none =>
      have hi : ids = [] := hn4
      subst hi
      unfold numsV at hnv
      injection hnv with e1 e2 e3
      simp at e1 e2
      subst e1 e2
      rw [← hp3]
      exact read_none c3 w0 w4 h4 h0'.1
    | some b =>
      unfold numsV at hnv
      injection hnv with e1 e2 e3
      simp at e1
      subst e1 e2
      rw [← hp3]
      exact read_any c3 w0 w4 b ids h4 h0'.1 h0'.2.1 hn4 (by rw [h0'.2.2.2.2]; exact hids.1) hids.2 (fun hne => hrd.resolve_left hne)
  have hfc := fun w4 (h4 : c3.At w0 w4) => fits_c c3 w0 w4 h4
  rw [hp3] at hfc
  have HFC := Lib.hid hfc
  have HRC := Lib.hid hrc
  have HW1 := Lib.hid hw1
  have HW2 := Lib.hid hw2
  have HW3 := Lib.hid hw3
  have HA3 := Lib.hid hA3'
  have HR3 := Lib.hid hr3
  have HY3 := Lib.hid hy3
  have HN3 := Lib.hid hN3
  have HP := Lib.hid hp3
  have HC3 := Lib.hid hc3
  have HDO := Lib.hid hdo
  have H0 := Lib.hid h0'
  have HFP := Lib.hid (fits_plain c kind hdom)
  have HPRE := Lib.hid hpre
  have hlo : w0.heap.size ≤ W.heap.size := h.bel.size
  have hz3 : W.heap.size + 2 ≤ w3.heap.size := by have := hy3.lt; omega
  obtain ⟨FV, hFV⟩ : ∃ FV, Ec.follow kind ids d c.ws c.now c.ks c.it.i = FV := ⟨_, rfl⟩
  have HFV := Lib.hid hFV
  rw [hFV]
  have HNV := Lib.hid hnv
  unfold rlV
  simp only
  rw [hnv]
  have HW1' : Hid (W.alloc (.cells #[.string ⟨nm.toArray⟩, .int .i64 kind, .slice an nn nn, .func (.func fn) #[] #[]] 58) = w1) := Lib.hid (by rw [← hnv]; exact HW1.out)
  clear hFV h h0 hN hrd hids hdom hpre hdo hw1 hw2 hw3 hb1 hb2 hbB hr1 hr2 hr3 hy2 hy3 hA2 hA3 hA3' hN2 hN3 hk3 hp hp3 hc3 hrc hfc hnv HW1 h0'
  go_enter Tryz.func20, Tryz.ntmps20
  go_upto_region 1 with (fail)
  rw [HW1'.out, HW2.out]
  go_wp2_with fail
  rw [HW3.out]
  refine (HFC.out w3 HA3.out).mono ?_
  rintro e w4 ⟨b, rfl, hb, hb4⟩
  have hA4 := HA3.out.later hb4
  have HA4 := Lib.hid hA4
  have hr4 := (hb4.block _ (by omega : W.heap.size < w3.heap.size)).trans HR3.out
  have HR4 := Lib.hid hr4
  have hy4 := HY3.out.later hb4
  have HY4 := Lib.hid hy4
  have HN4 : Hid (NumsIn w4 na ids) := Lib.hid (HN3.out.keep (Keeps.of_below hb4 fun _ h _ => h : Keeps (fun _ => True) w3 w4) fun _ _ => trivial)
  have HB := Lib.hid hb
  have hz4 : W.heap.size + 2 ≤ w4.heap.size := by have := hb4.size; omega
  obtain ⟨⟨z0, z1, z2, z3⟩, ⟨y0, y1, y2, y3⟩⟩ := hy4.at
  have r2 : w4.cell? ⟨W.heap.size, 2, none⟩ = some (.slice an nn nn) := by rw [← HNV.out]; simp [World.cell?, hr4]
  clear hb4 hA4 hr4 hy4 hb
  -- the end: a reply is stored where it is handed back from
  have hfin : ∀ (c5 : Cl) (w5 : World), c5.At w0 w5 → c5.rs = (W.heap.size + 1) :: c.rs → Rb w5 (W.heap.size + 1) 0 [] 0 none 0 0 → ∀ (k : Int) (s : List UInt8) (n : Int) (a : Option Addr) (m cp : Nat),
      ({ c5 with rs := c.rs } : Cl).At w0 (stRb w5 (W.heap.size + 1) k s n a m cp) ∧ Rb (stRb w5 (W.heap.size + 1) k s n a m cp) (W.heap.size + 1) k s n a m cp ∧ Keeps (fun k => k ≠ W.heap.size + 1) w5 (stRb w5 (W.heap.size + 1) k s n a m cp) := by
    intro c5 w5 h5 hrs hy k s n a m cp
    have hk : Keeps (fun k => k ≠ W.heap.size + 1) w5 (stRb w5 (W.heap.size + 1) k s n a m cp) := ((((Keeps.refl _ w5).setCell (p := ⟨W.heap.size + 1, 0, none⟩) (.inr fun h => h rfl) _).setCell (p := ⟨W.heap.size + 1, 1, none⟩) (.inr fun h => h rfl) _).setCell (p := ⟨W.heap.size + 1, 2, none⟩) (.inr fun h => h rfl) _).setCell (p := ⟨W.heap.size + 1, 3, none⟩) (.inr fun h => h rfl) _
    have h6 := h5.apart (B := W.heap.size + 1) (by rw [hrs]; exact List.mem_cons_self ..) (h5.notown hy (by decide) (by decide) (by decide)) (by omega) hk
    exact ⟨h6.unreserve c.rs (fun g hg => by rw [hrs]; exact List.mem_cons_of_mem _ hg), hy.store _ _ _ _ _ _, hk⟩
  have HFIN := Lib.hid hfin
  clear hfin
  cases b with
  | false =>
    have hff : Ec.fits kind c.ks c.it.i = false := by
      cases hx : Ec.fits kind c.ks c.it.i with
      | false => rfl
      | true =>
        have h1 := HFP.out.1 hx
        have h2 : FitsP c3 := by rw [← HC3.out]; exact h1
        exact absurd (HB.out.2 h2) (by decide)
    have HFF := Lib.hid hff
    clear hff
    go_wp2
    obtain ⟨e1, e2, e3⟩ := HFIN.out c3 w4 HA4.out (by rw [← HC3.out]) HY4.out 2 [87, 82, 79, 78, 71, 84, 89, 80, 69] 0 none 0 0
    refine bodyPost_ret (results_cell rfl rfl (loadRb e2)) rfl ⟨_, _, _, _, _, _, _, rfl, by rw [← HC3.out] at e1; exact e1, ?_, ?_⟩
    · rw [← HFV.out]
      unfold Ec.follow
      rw [HFF.out]
      exact rep_flat _ 2 [87, 82, 79, 78, 71, 84, 89, 80, 69] 0 (by decide) (by decide) (by decide)
    · rw [← HFV.out]
      unfold Ec.follow
      rw [HFF.out]
      exact fun k => rfl
  | true =>
    have HFT : Hid (Ec.fits kind c.ks c.it.i = true) := Lib.hid (HFP.out.2 (by have h1 := HB.out.1 rfl; rw [← HC3.out] at h1; exact h1))
    go_wp2_with fail
    refine (HRC.out w4 HA4.out HN4.out).mono ?_
    rintro e w5 ⟨hk5, nv, ns, hA5, hout⟩
    have HR5 := Lib.hid (hk5.heap HR4.out (HA4.out.notown HR4.out (by decide) (by decide) (by decide)))
    have hy5 : Rb w5 (W.heap.size + 1) 0 [] 0 none 0 0 := hk5.heap HY4.out (HA4.out.notown HY4.out (by decide) (by decide) (by decide))
    have HY5 := Lib.hid hy5
    obtain ⟨c5, hc5⟩ : ∃ c5 : Cl, ({ c3 with nv := nv, ns := ns } : Cl) = c5 := ⟨_, rfl⟩
    rw [hc5] at hA5
    have HA5 := Lib.hid hA5
    have HC5 := Lib.hid hc5
    have HP5 : Hid (c5.p = p) := Lib.hid (by rw [← hc5]; exact HP.out)
    have hz5 : W.heap.size + 2 ≤ w5.heap.size := by have := hk5.size; omega
    have r3 : w5.cell? ⟨W.heap.size, 3, none⟩ = some (.func (.func fn) #[] #[]) := by simp [World.cell?, HR5.out]
    obtain ⟨⟨v0, v1, v2, v3⟩, ⟨u0, u1, u2, u3⟩⟩ := hy5.at
    have hws : c3.ws = c.ws := H0.out.2.2.2.2
    rw [hws] at hout
    have HWS := Lib.hid hws
    clear hk5 hc5 hA5 hy5 z0 z1 z2 z3 y0 y1 y2 y3 hws
    cases hrd : Ec.readN c.ws ids with
    | none =>
      rw [hrd] at hout
      simp only at hout
      subst hout
      have HRD := Lib.hid hrd
      have HFL := Lib.hid (fun W => failed_c W)
      clear hrd
      go_wp2_with (go_at_call 18; refine (HFL.out _).mono ?_; rintro e w6 ⟨rfl, hb6⟩; have HA6 := Lib.hid (HA5.out.later hb6); have hy6 := HY5.out.later hb6; have HY6 := Lib.hid hy6; obtain ⟨⟨z0, z1, z2, z3⟩, ⟨y0, y1, y2, y3⟩⟩ := hy6.at; clear hb6 hy6; simp only [flatV, rv])
      obtain ⟨e1, e2, e3⟩ := HFIN.out c5 w6 HA6.out (by rw [← HC5.out, ← HC3.out]) HY6.out 2 [69, 82, 82] 0 none 0 0
      refine bodyPost_ret (results_cell rfl rfl (loadRb e2)) rfl ⟨_, _, _, _, _, _, _, rfl, by rw [← HC5.out, ← HC3.out] at e1; exact e1, ?_, ?_⟩
      · rw [← HFV.out]
        unfold Ec.follow
        rw [HFT.out, HRD.out]
        exact rep_flat _ 2 [69, 82, 82] 0 (by decide) (by decide) (by decide)
      · rw [← HFV.out]
        unfold Ec.follow
        rw [HFT.out, HRD.out]
        exact fun k => rfl
    | some l =>
      rw [hrd] at hout
      simp only at hout
      obtain ⟨rfl, hnl⟩ := hout
      have HRD := Lib.hid hrd
      have HNL := Lib.hid hnl
      have hpre5 : pre c5 := by
        have h1 := HPRE.out nv ns ((W.heap.size + 1) :: c.rs) (HFP.out.1 HFT.out) (by rw [hnl]; exact hrd)
        have h2 := HC5.out
        rw [← HC3.out] at h2
        rw [← h2]
        exact h1
      have hdc := HDO.out.2 w0 w5 c5 HA5.out (by rw [← HC5.out]; exact H0.out.2.2.1) (by rw [← HC5.out]; exact H0.out.2.2.2.1) hpre5
      rw [HP5.out] at hdc
      have HDC := Lib.hid hdc
      have hent := HDO.out.1
      clear hrd hnl hpre5 hdc
      go_wp2_with fail
      refine HDC.out.mono ?_
      rintro e w6 ⟨hk6, v, it, ni, inv, rfl, hA6, hrep, hit, hinv⟩
      have hy6 : Rb w6 (W.heap.size + 1) 0 [] 0 none 0 0 := hk6.heap HY5.out (HA5.out.notown HY5.out (by decide) (by decide) (by decide))
      obtain ⟨ra, rc, rfl, hfit, hrl⟩ := hrep.parts
      obtain ⟨R, hR⟩ : ∃ R, d c5.ws c5.now c5.kind c5.ns c5.ks ⟨c5.it.i, false⟩ = R := ⟨_, rfl⟩
      rw [hR] at hrep hit hinv ⊢
      obtain ⟨⟨rk, rs, rn, rl⟩, S2⟩ := R
      simp only [Rp.R.k, Rp.R.s, Rp.R.n, Rp.R.l] at hrep hit hinv ⊢
      obtain ⟨w7, hw7⟩ : ∃ w7, w6.alloc (.cells #[.int .i64 rk, .string ⟨rs.toArray⟩, .int .i64 rn, .slice ra rl.length rc] 26) = w7 := ⟨_, rfl⟩
      have hb7 : Below w6.heap.size w6 w7 := by rw [← hw7]; exact (Below.refl _ _).alloc (Nat.le_refl _) _
      have hx7 : Rb w7 w6.heap.size rk rs rn ra rl.length rc := by rw [← hw7]; exact World.alloc_heap_new _ _
      have hy7 := hy6.later hb7
      have hA7 := hA6.later hb7
      obtain ⟨-, -, -, -, -, -, -, q7⟩ := hA7.cell
      simp only at q7
      rw [HP5.out] at q7
      obtain ⟨⟨z0, z1, z2, z3⟩, ⟨y0, y1, y2, y3⟩⟩ := hy7.at
      obtain ⟨⟨x0, x1, x2, x3⟩, -⟩ := hx7.at
      have HA7 := Lib.hid hA7
      have HY7 := Lib.hid hy7
      have HREP := Lib.hid (hrep.later hb7)
      have HIT := Lib.hid hit
      have HINV := Lib.hid hinv
      have HR := Lib.hid hR
      have HW7 := Lib.hid hw7
      have hz6 : W.heap.size ≤ w5.heap.size := by omega
      have HFW : Hid (FV = if S2.inv then (Ec.errR, S2.it) else (.mk rk rs rn rl, S2.it)) := Lib.hid (by
        rw [← HFV.out]
        unfold Ec.follow
        rw [HFT.out, HRD.out]
        have e1 : d c.ws c.now kind l c.ks ⟨c.it.i, false⟩ = (.mk rk rs rn rl, S2) := by
          rw [← hR, ← HC5.out, ← HC3.out]
          simp only
          rw [HNL.out]
        simp only [if_true]
        rw [e1])
      clear hk6 hA6 hrep hit hinv hR hw7 hb7 hx7 hy6 hy7 hA7 hfit hrl v0 v1 v2 v3 u0 u1 u2 u3 hent
      have HFL := Lib.hid (fun W => failed_c W)
      unfold rv
      go_upto_region 7 with (fail)
      rw [HW7.out]
      cases inv with
      | true =>
        go_wp2_with (first
          | (go_at_call 18; refine (HFL.out _).mono ?_; rintro e w8 ⟨rfl, hb8⟩; have HA8 := Lib.hid (HA7.out.later hb8); have hy8 := HY7.out.later hb8; have HY8 := Lib.hid hy8; obtain ⟨⟨z0, z1, z2, z3⟩, ⟨y0, y1, y2, y3⟩⟩ := hy8.at; clear hb8 hy8; simp only [flatV, rv]))
        obtain ⟨e1, e2, e3⟩ := HFIN.out _ w8 HA8.out (by rw [← HC5.out, ← HC3.out]) HY8.out 2 [69, 82, 82] 0 none 0 0
        refine bodyPost_ret (results_cell rfl rfl (loadRb e2)) rfl ⟨_, _, _, _, _, _, _, rfl, by rw [← HC5.out, ← HC3.out] at e1; exact e1, ?_, ?_⟩
        · rw [HFW.out, ← HINV.out]
          exact rep_flat _ 2 [69, 82, 82] 0 (by decide) (by decide) (by decide)
        · rw [HFW.out, ← HINV.out]
          exact HIT.out
      | false =>
        go_wp2
        obtain ⟨e1, e2, e3⟩ := HFIN.out _ w7 HA7.out (by rw [← HC5.out, ← HC3.out]) HY7.out rk rs rn ra rl.length rc
        refine bodyPost_ret (results_cell rfl rfl (loadRb e2)) rfl ⟨_, _, _, _, _, _, _, rfl, by rw [← HC5.out, ← HC3.out] at e1; exact e1, ?_, ?_⟩
        · rw [HFW.out, ← HINV.out]
          exact Rep.keeps (S := fun k => W.heap.size ≤ k ∧ k ≠ W.heap.size + 1) (e3.mono fun _ _ h => h.2) (fun k hk _ => hk.1) _ _ (HREP.out.mono fun k hk _ => ⟨by omega, by omega⟩)
        · rw [HFW.out, ← HINV.out]
          exact HIT.out
end Go.Proofs.YtokcbcjonbjkgaaGreatDoor
