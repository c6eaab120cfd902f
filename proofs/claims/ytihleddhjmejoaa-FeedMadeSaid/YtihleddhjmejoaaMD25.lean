/- Items that may be, items that Make makes, are small; effects by numbers, plainly (11). The contracts of the law's Effects and Make: effects, a space by numbers (11). -/
import Derived.Test.YtihleddhjmejoaaMD08
import Derived.Test.YtihleddhjmejoaaMD23
import Derived.Test.YtihleddhjmejoaaMD24
namespace Go.Proofs.Ytihleddhjmejoaa
set_option linter.unusedVariables false

theorem may_sm {i : It.I} (h : It.mayB i = true) : i.Sm := by
  unfold It.mayB at h
  simp only [Bool.and_eq_true, decide_eq_true_eq, List.all_eq_true] at h
  obtain ⟨⟨-, hf⟩, ht⟩ := h
  have hs : ∀ t ∈ It.textsS i, t.length ≤ 300 := ht
  have hc : i.f.length ≤ 1000000 ∧ i.l.length ≤ 1000000 := by
    unfold It.fitsB It.countB at hf
    split at hf
    · simp at hf; rw [hf.1, hf.2]; decide
    · split at hf
      · simp at hf; rw [hf.2]; simp; omega
      · split at hf
        · simp at hf; rw [hf.1.2]; simp; omega
        · split at hf
          · simp at hf; rw [hf.1.1.2]; simp; omega
          · simp at hf
  refine ⟨?_, hc.1, hc.2, fun p hp => ?_, fun t ht' => ?_⟩
  · have := hs i.s (List.mem_cons_self ..); omega
  · have h1 := hs p.1 (List.mem_cons_of_mem _ (List.mem_append_left _ (List.mem_flatMap.2 ⟨p, hp, by simp⟩)))
    have h2 := hs p.2 (List.mem_cons_of_mem _ (List.mem_append_left _ (List.mem_flatMap.2 ⟨p, hp, by simp⟩)))
    omega
  · have h1 := hs t (List.mem_cons_of_mem _ (List.mem_append_right _ ht'))
    omega
theorem make_sm (ns : List UInt8) (x : Int) (h0 : 0 ≤ x) (h1 : x ≤ 255) : (Mk.mk ns x).Sm := may_sm (make_may ns x h0 h1)
end Go.Proofs.Ytihleddhjmejoaa
namespace Go.Proofs.Ytihleddhjmejoaa
open Go.RowKit Go.Shelf
attribute [local go_sem] Oper.semAt_some
set_option linter.unusedVariables false
set_option linter.unusedSimpArgs false

/-- an effect's box. -/
def EffBox (W : World) (B : Nat) (e : Le) : Prop :=
  W.heap[B]? = some (.cells #[.string ⟨e.key.toArray⟩, .bool e.gone, .int .i64 e.it.k, .string ⟨e.it.s.toArray⟩, .slice e.it.aF e.it.fs.length e.it.cF, .slice e.it.aL e.it.ws.length e.it.cL, .int .i64 e.it.x] 61 (0, 0))
theorem EffBox.lt {W : World} {B : Nat} {e : Le} (h : EffBox W B e) : B < W.heap.size := (Array.getElem?_eq_some_iff.1 h).1
theorem EffBox.at {W : World} {B : Nat} {e : Le} (h : EffBox W B e) :
    (W.cell? ⟨B, 0, none⟩ = some (.string ⟨e.key.toArray⟩) ∧ W.cell? ⟨B, 1, none⟩ = some (.bool e.gone) ∧ W.cell? ⟨B, 2, none⟩ = some (.int .i64 e.it.k) ∧ W.cell? ⟨B, 3, none⟩ = some (.string ⟨e.it.s.toArray⟩) ∧ W.cell? ⟨B, 4, none⟩ = some (.slice e.it.aF e.it.fs.length e.it.cF) ∧ W.cell? ⟨B, 5, none⟩ = some (.slice e.it.aL e.it.ws.length e.it.cL) ∧ W.cell? ⟨B, 6, none⟩ = some (.int .i64 e.it.x)) ∧
    (W.frozen? ⟨B, 0, none⟩ = false ∧ W.frozen? ⟨B, 1, none⟩ = false ∧ W.frozen? ⟨B, 2, none⟩ = false ∧ W.frozen? ⟨B, 3, none⟩ = false ∧ W.frozen? ⟨B, 4, none⟩ = false ∧ W.frozen? ⟨B, 5, none⟩ = false ∧ W.frozen? ⟨B, 6, none⟩ = false) := by
  unfold EffBox at h
  simp [World.cell?, World.frozen?, h]
/-- the item is stored. -/
def stEI (W : World) (B : Nat) (p : Li) : World :=
  ((((W.setCell ⟨B, 2, none⟩ (.int .i64 p.k)).setCell ⟨B, 3, none⟩ (.string ⟨p.s.toArray⟩)).setCell ⟨B, 4, none⟩ (.slice p.aF p.fs.length p.cF)).setCell ⟨B, 5, none⟩ (.slice p.aL p.ws.length p.cL)).setCell ⟨B, 6, none⟩ (.int .i64 p.x)
theorem EffBox.store {W : World} {B : Nat} {e : Le} (h : EffBox W B e) (p : Li) : EffBox (stEI W B p) B ⟨e.key, e.gone, p⟩ := by
  unfold EffBox at h ⊢
  simp [stEI, World.setCell, Array.getElem?_modify, h]
theorem stEI_keeps {w W : World} {B : Nat} (h : Below w.heap.size w W) (hB : w.heap.size ≤ B) (p : Li) : Below w.heap.size w (stEI W B p) :=
  ((((h.setCell (p := ⟨B, 2, none⟩) hB _).setCell (p := ⟨B, 3, none⟩) hB _).setCell (p := ⟨B, 4, none⟩) hB _).setCell (p := ⟨B, 5, none⟩) hB _).setCell (p := ⟨B, 6, none⟩) hB _
def stEK (W : World) (B : Nat) (key : List UInt8) (g : Bool) : World :=
  stEI ((W.setCell ⟨B, 0, none⟩ (.string ⟨key.toArray⟩)).setCell ⟨B, 1, none⟩ (.bool g)) B Li.zero
theorem EffBox.storeK {W : World} {B : Nat} {e : Le} (h : EffBox W B e) (key : List UInt8) (g : Bool) : EffBox (stEK W B key g) B ⟨key, g, Li.zero⟩ := by
  unfold EffBox at h ⊢
  simp [stEK, stEI, World.setCell, Array.getElem?_modify, h, Li.zero]
theorem stEK_keeps {w W : World} {B : Nat} (h : Below w.heap.size w W) (hB : w.heap.size ≤ B) (key : List UInt8) (g : Bool) : Below w.heap.size w (stEK W B key g) :=
  stEI_keeps ((h.setCell (p := ⟨B, 0, none⟩) hB _).setCell (p := ⟨B, 1, none⟩) hB _) hB _
theorem EffBox.new (w : World) (e : Le) : EffBox (w.alloc (.cells #[.string ⟨e.key.toArray⟩, .bool e.gone, .int .i64 e.it.k, .string ⟨e.it.s.toArray⟩, .slice e.it.aF e.it.fs.length e.it.cF, .slice e.it.aL e.it.ws.length e.it.cL, .int .i64 e.it.x] 61)) w.heap.size e := World.alloc_heap_new w _
/-- the effect's box behind its head. -/
def EfAt (wr : World) (key : List UInt8) (g : Bool) (p : Value) (W1 : World) : Prop :=
  ∃ B, p = .pointer (some ⟨B, 0, none⟩) ∧ wr.heap.size ≤ B ∧ EffBox W1 B ⟨key, g, Li.zero⟩ ∧ Below wr.heap.size wr W1

/-- the effect of four numbers. -/
def effT (ns : List UInt8) (i : Nat) : Db.E :=
  let g := decide ((ns.getD (i + 1) 0).toNat % 4 = 0)
  ⟨keyT ((ns.getD i 0).toNat : Int), g, if g then ⟨0, [], [], [], 0⟩ else Mk.mk ((ns.drop (i + 1)).take 3) ((ns.getD (i + 2) 0).toNat : Int)⟩
def effsT (ns : List UInt8) (q : Nat) : List Db.E := (List.range q).map fun j => effT ns (4 * j)
theorem effsT_snoc (ns : List UInt8) (q : Nat) : effsT ns (q + 1) = effsT ns q ++ [effT ns (4 * q)] := by simp [effsT, List.range_succ]

/-- the effect, whole. -/
def EfR (wr : World) (o : Option Nat) (B : Nat) (key : List UInt8) (g : Bool) (i : It.I) (v : Value) (W : World) : Prop :=
  ∃ p : Li, v = .pointer (some ⟨B, 0, none⟩) ∧ EffBox W B ⟨key, g, p⟩ ∧ p.i = i ∧ p.Ok W ∧ p.Far o ∧ Below wr.heap.size wr W
theorem Li.zero_farE (q : Option Nat) : Li.zero.Far q := ⟨fun h => (h rfl).elim, fun h => (h rfl).elim⟩
theorem stEI_far {w : World} {B b : Nat} (h : b ≠ B) (p : Li) : (stEI w B p).heap[b]? = w.heap[b]? := by
  unfold stEI
  rw [Below.heap_setCell _ _ _ _ h, Below.heap_setCell _ _ _ _ h, Below.heap_setCell _ _ _ _ h, Below.heap_setCell _ _ _ _ h, Below.heap_setCell _ _ _ _ h]
theorem efR_stored {wr wc w3 : World} {v : Value} {B : Nat} {key s : List UInt8} {k x : Int} {fs : List (List UInt8 × List UInt8)} {ws : List (List UInt8)} {aF aL : Option Addr} {cF cL : Nat} (hB : wr.heap.size ≤ B) (hBc : B < wc.heap.size) (hbc : Below wr.heap.size wr wc) (h3 : Below wc.heap.size wc w3) (hE : EffBox w3 B ⟨key, false, Li.zero⟩)
    (hF : Fds w3 aF cF fs) (hL : Wds w3 aL cL ws) (hfr : Fresh wc.drew aF cF aL cL) (hs : s.length ≤ 1000000) (ho : ∀ g, v.ownBlock = some g → g < wr.heap.size) :
    EfR wr v.ownBlock B key false ⟨k, s, fs, ws, x⟩ (.pointer (some ⟨B, 0, none⟩)) (stEI w3 B ⟨k, s, aF, fs, cF, aL, ws, cL, x⟩) := by
  have hz : wc.drew.heap.size = wc.heap.size := rfl
  have hw := hbc.size
  have hok3 : (⟨k, s, aF, fs, cF, aL, ws, cL, x⟩ : Li).Ok w3 := ⟨by show s.length ≤ _; omega, hF, hL, hfr.2.2.1, hfr.2.2.2⟩
  have hfar : ∀ o : Option Nat, (∀ g, o = some g → g < wc.heap.size) → (⟨k, s, aF, fs, cF, aL, ws, cL, x⟩ : Li).Far o := fun o ho => ⟨fun _ g j e eo => by have := hfr.1 g j e; have := ho g eo.symm; omega, fun _ g j e eo => by have := hfr.2.1 g j e; have := ho g eo.symm; omega⟩
  exact ⟨⟨k, s, aF, fs, cF, aL, ws, cL, x⟩, rfl, hE.store _, rfl, hok3.grown (hfar (some B) fun g e => by injection e with e; omega) (fun b _ hne => stEI_far (fun e => hne (by rw [e])) _) (by simp [stEI]), hfar _ fun g e => by have := ho g e; omega,
    stEI_keeps (hbc.trans (h3.mono hw)) hB _⟩
theorem bytes_cut {w : World} {b off : Nat} {ns : List UInt8} {k : Nat} (h : Bytes w (some ⟨b, off, none⟩) ns) (hk : k + 3 ≤ ns.length) : Bytes w (some ⟨b, off + k, none⟩) ((ns.drop k).take 3) := by
  rcases h with h | ⟨b', o', e, hc⟩
  · rw [h] at hk
    simp at hk
  · cases e
    refine .inr ⟨b, off + k, rfl, fun j hj => ?_⟩
    rw [List.length_take, List.length_drop] at hj
    have := hc (k + j) (by omega)
    rw [← Nat.add_assoc] at this
    rw [this]
    congr 3
    simp [List.getD, List.getElem?_take, List.getElem?_drop, show j < 3 by omega]

set_option maxRecDepth 100000 in
set_option maxHeartbeats 8000000 in
theorem effects_any (p : Option Addr) (cap : Nat) (ns : List UInt8) (w : World) (hB : Bytes w p ns) (hl : ns.length ≤ cap) (hc : ns.length ≤ 1000) :
    Calls Try.prog 25 #[.slice p ns.length cap] w fun r W => ∃ u out, r = .returned u ∧ out.map Le.e = effsT ns (min 40 (ns.length / 4)) ∧ RowX w u out W := by
  obtain ⟨iE, hiE, hiE0, hiE1, hiE2⟩ := info_parts infoE
  have HB := Lib.hid hB
  have hlI : (ns.length : Int) ≤ (cap : Int) := by omega
  have hcI : (ns.length : Int) ≤ 1000 := by omega
  clear hB
  go_enter Try.func25, Try.ntmps25
  go_wp2
  go_loopw [3, 4] (fun u i wr => ∃ q I : Nat, ∃ out : List Le, I = 4 * q ∧ I ≤ ns.length ∧ q ≤ 40 ∧ i = .int .i64 I ∧ out.length = q ∧ Hid (out.map Le.e = effsT ns q) ∧ Hid (RowX w u out wr)) (fun _ i _ => ns.length - (intOf i).toNat)
  case atStart => exact ⟨0, 0, [], rfl, Nat.zero_le _, by omega, rfl, rfl, Lib.hid rfl, Lib.hid (RowX.none (Below.refl _ _))⟩
  case round =>
    obtain ⟨q, I, out, hI, hIl, hq, rfl, hol, HM, HR⟩ := hrel
    have hzr := HR.out.2.1.size
    obtain ⟨a, ca, hu, hEf, hna⟩ := HR.out.efs
    subst hu
    rw [hol] at HR ⊢
    have hw3 : IntKind.i64.wrap ((I : Int) + 3) = (I : Int) + 3 := IntWalk.i64_in _ (by omega)
    by_cases hgo : I + 3 < ns.length ∧ q < 40
    · obtain ⟨hgo1, hgo2⟩ := hgo
      obtain ⟨b, off, rfl, hcs⟩ := HB.out.resolve_left (by intro h; rw [h] at hgo1; simp at hgo1)
      have x0 := hcs I (by omega)
      have x1 := hcs (I + 1) (by omega)
      have x2 := hcs (I + 2) (by omega)
      have hbl : b < w.heap.size := World.block_lt_of_cell? w _ x0
      have hbr : b < wr.heap.size := by omega
      obtain ⟨y0, hy0⟩ : ∃ y0 : Int, ((ns.getD I 0).toNat : Int) = y0 := ⟨_, rfl⟩
      obtain ⟨y1, hy1⟩ : ∃ y1 : Int, ((ns.getD (I + 1) 0).toNat : Int) = y1 := ⟨_, rfl⟩
      obtain ⟨y2, hy2⟩ : ∃ y2 : Int, ((ns.getD (I + 2) 0).toNat : Int) = y2 := ⟨_, rfl⟩
      rw [hy0] at x0
      rw [hy1] at x1
      rw [hy2] at x2
      have b0 : 0 ≤ y0 ∧ y0 ≤ 255 := by have := (ns.getD I 0).toNat_lt; omega
      have b1 : 0 ≤ y1 ∧ y1 ≤ 255 := by have := (ns.getD (I + 1) 0).toNat_lt; omega
      have b2 : 0 ≤ y2 ∧ y2 ≤ 255 := by have := (ns.getD (I + 2) 0).toNat_lt; omega
      have v0 := (HR.out.2.1.cell (p := ⟨b, off + I, none⟩) hbl).trans x0
      have v1 := (HR.out.2.1.cell (p := ⟨b, off + (I + 1), none⟩) hbl).trans x1
      have HV2 := Lib.hid ((HR.out.2.1.cell (p := ⟨b, off + (I + 2), none⟩) hbl).trans x2)
      have HBY := Lib.hid (HB.out.later HR.out.2.1)
      have HYS := Lib.hid (And.intro hy0 (And.intro hy1 hy2))
      clear x0 x1 x2 hcs hy0 hy1 hy2
      have HKY := Lib.hid (fun W => key_any y0 W b0.1 b0.2)
      obtain ⟨g, hg⟩ : ∃ g, decide (y1 % 4 = 0) = g := ⟨_, rfl⟩
      have HG := Lib.hid hg
      clear hg
      have hw1 : IntKind.i64.wrap ((I : Int) + 1) = (I : Int) + 1 := IntWalk.i64_in _ (by omega)
      have hw2 : IntKind.i64.wrap ((I : Int) + 2) = (I : Int) + 2 := IntWalk.i64_in _ (by omega)
      have hw4 : IntKind.i64.wrap ((I : Int) + 4) = (I : Int) + 4 := IntWalk.i64_in _ (by omega)
      have hT4 : y1.tmod 4 = y1 % 4 := Int.tmod_eq_emod_of_nonneg b1.1
      have hU4 : IntKind.u8.wrap (y1 % 4) = y1 % 4 := IntWalk.u8_in _ (by omega)
      have k3 : (I : Int) + 3 < (ns.length : Int) := by omega
      have k40 : (q : Int) < 40 := by omega
      have i0 : (0 : Int) ≤ (I : Int) := by omega
      have i1 : (0 : Int) ≤ (I : Int) + 1 := by omega
      have i2 : (0 : Int) ≤ (I : Int) + 2 := by omega
      have j0 : (I : Int) < (ns.length : Int) := by omega
      have j1 : (I : Int) + 1 < (ns.length : Int) := by omega
      have j2 : (I : Int) + 2 < (ns.length : Int) := by omega
      have t1 : ((I : Int) + 1).toNat = I + 1 := by omega
      have t2 : ((I : Int) + 2).toNat = I + 2 := by omega
      have HI := Lib.hid hI
      clear hI
      go_upto_region 5 with (fail)
      go_cut [5] (fun p W1 => EfAt wr (keyT y0) g p W1)
      case first =>
        have HS0 : Below wr.heap.size wr wr.drew := (Below.refl _ wr).drew
        refine wp_region_L (S := fun W => Below wr.heap.size wr W) (f := 15) (by kernel_rfl) ?_
        refine wpAnyL_take (i := 0) (some 18) (v := .slice (some ⟨b, off, none⟩) ns.length cap) rfl rfl (by kernel_rfl) (by kernel_rfl) (by kernel_rfl) (by kernel_rfl) (fun _ _ _ h => h) (by rfl) (fun W hS => ?_) HS0 ?_
        · go_simp
        try simp only [Act.put, List.setIfInBounds_toArray, List.set_cons_zero, List.set_cons_succ]
        refine wpAnyL_take (i := 1) (some 19) (v := .int .i64 (I : Int)) rfl rfl (by kernel_rfl) (by kernel_rfl) (by kernel_rfl) (by kernel_rfl) (fun _ _ _ h => h) (by rfl) (fun W hS => ?_) HS0 ?_
        · go_simp
        try simp only [Act.put, List.setIfInBounds_toArray, List.set_cons_zero, List.set_cons_succ]
        refine wpAnyL_take (i := 2) (some 20) (v := .pointer (some ⟨b, off + I, none⟩)) rfl rfl (by kernel_rfl) (by kernel_rfl) (by kernel_rfl) (by kernel_rfl) (fun _ _ _ h => h) (by rfl) (fun W hS => ?_) HS0 ?_
        · go_simp
        try simp only [Act.put, List.setIfInBounds_toArray, List.set_cons_zero, List.set_cons_succ]
        refine wpAnyL_take (i := 3) (some 21) (v := .int .u8 y0) rfl rfl (by kernel_rfl) (by kernel_rfl) (by kernel_rfl) (by kernel_rfl) (fun _ _ _ h => h) (by rfl) (fun W hS => ?_) HS0 ?_
        · have m0 := (hS.cell (p := ⟨b, off + I, none⟩) hbr).trans v0
          go_simp
        try simp only [Act.put, List.setIfInBounds_toArray, List.set_cons_zero, List.set_cons_succ]
        refine wpAnyL_take (i := 5) (some 23) (v := .slice (some ⟨b, off, none⟩) ns.length cap) rfl rfl (by kernel_rfl) (by kernel_rfl) (by kernel_rfl) (by kernel_rfl) (fun _ _ _ h => h) (by rfl) (fun W hS => ?_) HS0 ?_
        · go_simp
        try simp only [Act.put, List.setIfInBounds_toArray, List.set_cons_zero, List.set_cons_succ]
        refine wpAnyL_take (i := 6) (some 24) (v := .int .i64 (I : Int)) rfl rfl (by kernel_rfl) (by kernel_rfl) (by kernel_rfl) (by kernel_rfl) (fun _ _ _ h => h) (by rfl) (fun W hS => ?_) HS0 ?_
        · go_simp
        try simp only [Act.put, List.setIfInBounds_toArray, List.set_cons_zero, List.set_cons_succ]
        refine wpAnyL_take (i := 7) (some 25) (v := .int .i64 ((I : Int) + 1)) rfl rfl (by kernel_rfl) (by kernel_rfl) (by kernel_rfl) (by kernel_rfl) (fun _ _ _ h => h) (by rfl) (fun W hS => ?_) HS0 ?_
        · go_simp
        try simp only [Act.put, List.setIfInBounds_toArray, List.set_cons_zero, List.set_cons_succ]
        refine wpAnyL_take (i := 8) (some 26) (v := .pointer (some ⟨b, off + (I + 1), none⟩)) rfl rfl (by kernel_rfl) (by kernel_rfl) (by kernel_rfl) (by kernel_rfl) (fun _ _ _ h => h) (by rfl) (fun W hS => ?_) HS0 ?_
        · go_simp
        try simp only [Act.put, List.setIfInBounds_toArray, List.set_cons_zero, List.set_cons_succ]
        refine wpAnyL_take (i := 9) (some 27) (v := .int .u8 y1) rfl rfl (by kernel_rfl) (by kernel_rfl) (by kernel_rfl) (by kernel_rfl) (fun _ _ _ h => h) (by rfl) (fun W hS => ?_) HS0 ?_
        · have m0 := (hS.cell (p := ⟨b, off + (I + 1), none⟩) hbr).trans v1
          go_simp
        try simp only [Act.put, List.setIfInBounds_toArray, List.set_cons_zero, List.set_cons_succ]
        refine wpAnyL_take (i := 10) (some 28) (v := .int .u8 (y1 % 4)) rfl rfl (by kernel_rfl) (by kernel_rfl) (by kernel_rfl) (by kernel_rfl) (fun _ _ _ h => h) (by rfl) (fun W hS => ?_) HS0 ?_
        · go_simp
        try simp only [Act.put, List.setIfInBounds_toArray, List.set_cons_zero, List.set_cons_succ]
        refine wpAnyL_take (i := 11) (some 29) (v := .bool g) rfl rfl (by kernel_rfl) (by kernel_rfl) (by kernel_rfl) (by kernel_rfl) (fun _ _ _ h => h) (by rfl) (fun W hS => ?_) HS0 ?_
        · go_simp
          exact HG.out
        try simp only [Act.put, List.setIfInBounds_toArray, List.set_cons_zero, List.set_cons_succ]
        refine wpAnyL_two (i := 4) (j := 13) (by kernel_rfl) rfl rfl (by rfl) (by rfl) (fun K hK => ?_) (fun K hK => ?_)
        · go_simp
          refine (HKY.out _).mono ?_
          rintro e w1 ⟨rfl, hb⟩
          have HS1 := HS0.trans (hb.mono HS0.size)
          clear hb
          refine hK _ _ (fun _ => HS1) ?_
          clear hK K
          try simp only [Act.put, List.setIfInBounds_toArray, List.set_cons_zero, List.set_cons_succ]
          refine wpAnyL_take (i := 12) (some 30) (v := .agg #[.string ⟨(keyT y0).toArray⟩, .bool g, .int .i64 0, .string ⟨#[]⟩, .slice none 0 0, .slice none 0 0, .int .i64 0]) rfl rfl (by kernel_rfl) (by kernel_rfl) (by kernel_rfl) (by kernel_rfl) (fun _ _ _ h => h) (by rfl) (fun W hS => ?_) HS1 ?_
          · go_simp
          try simp only [Act.put, List.setIfInBounds_toArray, List.set_cons_zero, List.set_cons_succ]
          refine wpAnyL_one (j := 13) (by kernel_rfl) rfl (by rfl) (fun K hK => ?_)
          refine oper_wp_valD (some 5) (v := .pointer (some ⟨w1.heap.size, 0, none⟩)) (w' := w1.alloc (.cells #[.string ⟨#[]⟩, .bool false, .int .i64 0, .string ⟨#[]⟩, .slice none 0 0, .slice none 0 0, .int .i64 0] 61)) rfl (by go_simp) ?_
          have HS2 := HS1.alloc HS1.size (.cells #[.string ⟨#[]⟩, .bool false, .int .i64 0, .string ⟨#[]⟩, .slice none 0 0, .slice none 0 0, .int .i64 0] 61)
          refine hK _ _ (fun _ => HS2) ?_
          clear hK K
          try simp only [Act.put, List.setIfInBounds_toArray, List.set_cons_zero, List.set_cons_succ]
          obtain ⟨⟨c0, c1, c2, c3, c4, c5, c6⟩, z0, z1, z2, z3, z4, z5, z6⟩ := (EffBox.new w1 Le.zero).at
          refine wpAnyL_one (j := 14) (by kernel_rfl) rfl (by rfl) (fun K hK => ?_)
          go_simp
          refine hK _ _ (fun _ => HS1.alloc HS1.size _) ?_
          clear hK K
          try simp only [Act.put, List.setIfInBounds_toArray, List.set_cons_zero, List.set_cons_succ]
          refine wpAnyL_done (by kernel_rfl) ?_ _
          go_wp2_with fail
          go_meet
          case rel => exact ⟨w1.heap.size, rfl, HS1.size, EffBox.new w1 ⟨keyT y0, g, Li.zero⟩, HS1.alloc HS1.size _⟩
        · refine oper_wp_valD (some 5) (v := .pointer (some ⟨wr.heap.size, 0, none⟩)) (w' := (wr.alloc (.cells #[.string ⟨#[]⟩, .bool false, .int .i64 0, .string ⟨#[]⟩, .slice none 0 0, .slice none 0 0, .int .i64 0] 61)).drew) rfl (by go_simp) ?_
          have HS1 : Below wr.heap.size wr ((wr.alloc (.cells #[.string ⟨#[]⟩, .bool false, .int .i64 0, .string ⟨#[]⟩, .slice none 0 0, .slice none 0 0, .int .i64 0] 61)).drew) := ((Below.refl _ wr).alloc (Nat.le_refl _) _).drew
          have hx : EffBox ((wr.alloc (.cells #[.string ⟨#[]⟩, .bool false, .int .i64 0, .string ⟨#[]⟩, .slice none 0 0, .slice none 0 0, .int .i64 0] 61)).drew) wr.heap.size Le.zero := EffBox.new wr Le.zero
          refine hK _ _ (fun _ => HS1) ?_
          clear hK K
          try simp only [Act.put, List.setIfInBounds_toArray, List.set_cons_zero, List.set_cons_succ]
          refine wpAnyL_one (j := 4) (by kernel_rfl) rfl (by rfl) (fun K hK => ?_)
          go_simp
          refine (HKY.out _).mono ?_
          rintro e w1 ⟨rfl, hb⟩
          have HS2 := HS1.trans (hb.mono HS1.size)
          have HX : Hid (EffBox w1 wr.heap.size Le.zero) := Lib.hid ((hb.block _ hx.lt).trans hx)
          clear hb hx
          refine hK _ _ (fun _ => HS2) ?_
          clear hK K
          try simp only [Act.put, List.setIfInBounds_toArray, List.set_cons_zero, List.set_cons_succ]
          refine wpAnyL_take (i := 12) (some 30) (v := .agg #[.string ⟨(keyT y0).toArray⟩, .bool g, .int .i64 0, .string ⟨#[]⟩, .slice none 0 0, .slice none 0 0, .int .i64 0]) rfl rfl (by kernel_rfl) (by kernel_rfl) (by kernel_rfl) (by kernel_rfl) (fun _ _ _ h => h) (by rfl) (fun W hS => ?_) HS2 ?_
          · go_simp
          try simp only [Act.put, List.setIfInBounds_toArray, List.set_cons_zero, List.set_cons_succ]
          obtain ⟨⟨c0, c1, c2, c3, c4, c5, c6⟩, z0, z1, z2, z3, z4, z5, z6⟩ := HX.out.at
          refine wpAnyL_one (j := 14) (by kernel_rfl) rfl (by rfl) (fun K hK => ?_)
          go_simp
          refine hK _ _ (fun _ => stEK_keeps HS2 (Nat.le_refl _) (keyT y0) g) ?_
          clear hK K
          try simp only [Act.put, List.setIfInBounds_toArray, List.set_cons_zero, List.set_cons_succ]
          refine wpAnyL_done (by kernel_rfl) ?_ _
          go_wp2_with fail
          go_meet
          case rel => exact ⟨wr.heap.size, rfl, Nat.le_refl _, HX.out.storeK _ _, stEK_keeps HS2 (Nat.le_refl _) _ _⟩
      case rest =>
        obtain ⟨B, rfl, hBr, hEB, hbc⟩ := hcut
        have hBc : B < wc.heap.size := hEB.lt
        obtain ⟨⟨c0, c1, c2, c3, c4, c5, c6⟩, z0, z1, z2, z3, z4, z5, z6⟩ := hEB.at
        have HEB := Lib.hid hEB
        have HBC := Lib.hid hbc
        have HRC := Lib.hid (HR.out.later hbc)
        have hown : ∀ g', (Value.slice a q ca).ownBlock = some g' → g' < wr.heap.size := fun g' e => (HR.out.1.lt g' e).2
        have HOW := Lib.hid hown
        have hlen3 : ((ns.drop (I + 1)).take 3).length = 3 := by rw [List.length_take, List.length_drop]; omega
        have HMK := Lib.hid (show ∀ W, Below wr.heap.size wr W → Calls Try.prog 46 #[.slice (some ⟨b, off + (I + 1), none⟩) 3 (cap - (I + 1)), .int .u8 y2] W (MadeAt (Mk.mk ((ns.drop (I + 1)).take 3) y2) W) from fun W h => by
          have h1 := make_at (some ⟨b, off + (I + 1), none⟩) (cap - (I + 1)) ((ns.drop (I + 1)).take 3) y2 W b2.1 b2.2 (bytes_cut (HBY.out.later h) (by omega)) (by omega)
          rw [hlen3] at h1
          exact h1)
        have HSL := Lib.hid (make_sm ((ns.drop (I + 1)).take 3) y2 b2.1 b2.2)
        have hbc2 : b < wc.heap.size := Nat.lt_of_lt_of_le hbr hbc.size
        have x2 := (hbc.cell (p := ⟨b, off + (I + 2), none⟩) hbr).trans HV2.out
        obtain ⟨mi, hmi⟩ : ∃ i, Mk.mk ((ns.drop (I + 1)).take 3) y2 = i := ⟨_, rfl⟩
        rw [hmi] at HMK HSL
        have HMI := Lib.hid hmi
        clear hEB hbc v0 v1 hown hmi
        go_upto_if 33 with (fail)
        go_cut [5] (fun v W => EfR wr (Value.slice a q ca).ownBlock B (keyT y0) g (if g then ⟨0, [], [], [], 0⟩ else mi) v W)
        case first =>
          cases g with
          | true =>
            go_wp2_with fail
            go_meet
            case rel => exact ⟨Li.zero, rfl, HEB.out, rfl, Li.zero_ok _, Li.zero_farE _, HBC.out⟩
          | false =>
            obtain ⟨ik, is, ifs, iws, ix⟩ := mi
            unfold MadeAt at HMK
            simp only [itv] at HMK
            have k4 : (I : Int) + 4 ≤ (cap : Int) := by omega
            have k14 : (I : Int) + 1 ≤ (I : Int) + 4 := by omega
            have t4 : ((I : Int) + 4).toNat = I + 4 := by omega
            have t43 : I + 4 - (I + 1) = 3 := by omega
            have hcI : ¬ cap = I + 1 := by omega
            have hbc := hbc2
            go_wp2_with fail
            have HS0 : Below wc.heap.size wc wc.drew := (Below.refl _ wc).drew
            refine wp_region_L (S := fun W => Below wc.heap.size wc W) (f := 13) (by kernel_rfl) ?_
            refine wpAnyL_take (i := 0) (some 34) (v := .slice (some ⟨b, off, none⟩) ns.length cap) rfl rfl (by kernel_rfl) (by kernel_rfl) (by kernel_rfl) (by kernel_rfl) (fun _ _ _ h => h) (by rfl) (fun W hS => ?_) HS0 ?_
            · go_simp
            try simp only [Act.put, List.setIfInBounds_toArray, List.set_cons_zero, List.set_cons_succ]
            refine wpAnyL_take (i := 1) (some 35) (v := .int .i64 (I : Int)) rfl rfl (by kernel_rfl) (by kernel_rfl) (by kernel_rfl) (by kernel_rfl) (fun _ _ _ h => h) (by rfl) (fun W hS => ?_) HS0 ?_
            · go_simp
            try simp only [Act.put, List.setIfInBounds_toArray, List.set_cons_zero, List.set_cons_succ]
            refine wpAnyL_take (i := 2) (some 36) (v := .int .i64 ((I : Int) + 1)) rfl rfl (by kernel_rfl) (by kernel_rfl) (by kernel_rfl) (by kernel_rfl) (fun _ _ _ h => h) (by rfl) (fun W hS => ?_) HS0 ?_
            · go_simp
            try simp only [Act.put, List.setIfInBounds_toArray, List.set_cons_zero, List.set_cons_succ]
            refine wpAnyL_take (i := 3) (some 37) (v := .int .i64 (I : Int)) rfl rfl (by kernel_rfl) (by kernel_rfl) (by kernel_rfl) (by kernel_rfl) (fun _ _ _ h => h) (by rfl) (fun W hS => ?_) HS0 ?_
            · go_simp
            try simp only [Act.put, List.setIfInBounds_toArray, List.set_cons_zero, List.set_cons_succ]
            refine wpAnyL_take (i := 4) (some 38) (v := .int .i64 ((I : Int) + 4)) rfl rfl (by kernel_rfl) (by kernel_rfl) (by kernel_rfl) (by kernel_rfl) (fun _ _ _ h => h) (by rfl) (fun W hS => ?_) HS0 ?_
            · go_simp
            try simp only [Act.put, List.setIfInBounds_toArray, List.set_cons_zero, List.set_cons_succ]
            refine wpAnyL_take (i := 5) (some 39) (v := .slice (some ⟨b, off + (I + 1), none⟩) 3 (cap - (I + 1))) rfl rfl (by kernel_rfl) (by kernel_rfl) (by kernel_rfl) (by kernel_rfl) (fun _ _ _ h => h) (by rfl) (fun W hS => ?_) HS0 ?_
            · go_simp
            try simp only [Act.put, List.setIfInBounds_toArray, List.set_cons_zero, List.set_cons_succ]
            refine wpAnyL_take (i := 6) (some 40) (v := .slice (some ⟨b, off, none⟩) ns.length cap) rfl rfl (by kernel_rfl) (by kernel_rfl) (by kernel_rfl) (by kernel_rfl) (fun _ _ _ h => h) (by rfl) (fun W hS => ?_) HS0 ?_
            · go_simp
            try simp only [Act.put, List.setIfInBounds_toArray, List.set_cons_zero, List.set_cons_succ]
            refine wpAnyL_take (i := 7) (some 41) (v := .int .i64 (I : Int)) rfl rfl (by kernel_rfl) (by kernel_rfl) (by kernel_rfl) (by kernel_rfl) (fun _ _ _ h => h) (by rfl) (fun W hS => ?_) HS0 ?_
            · go_simp
            try simp only [Act.put, List.setIfInBounds_toArray, List.set_cons_zero, List.set_cons_succ]
            refine wpAnyL_take (i := 8) (some 42) (v := .int .i64 ((I : Int) + 2)) rfl rfl (by kernel_rfl) (by kernel_rfl) (by kernel_rfl) (by kernel_rfl) (fun _ _ _ h => h) (by rfl) (fun W hS => ?_) HS0 ?_
            · go_simp
            try simp only [Act.put, List.setIfInBounds_toArray, List.set_cons_zero, List.set_cons_succ]
            refine wpAnyL_take (i := 9) (some 43) (v := .pointer (some ⟨b, off + (I + 2), none⟩)) rfl rfl (by kernel_rfl) (by kernel_rfl) (by kernel_rfl) (by kernel_rfl) (fun _ _ _ h => h) (by rfl) (fun W hS => ?_) HS0 ?_
            · go_simp
            try simp only [Act.put, List.setIfInBounds_toArray, List.set_cons_zero, List.set_cons_succ]
            refine wpAnyL_take (i := 10) (some 44) (v := .int .u8 y2) rfl rfl (by kernel_rfl) (by kernel_rfl) (by kernel_rfl) (by kernel_rfl) (fun _ _ _ h => h) (by rfl) (fun W hS => ?_) HS0 ?_
            · have m0 := (hS.cell (p := ⟨b, off + (I + 2), none⟩) hbc).trans x2
              go_simp
            try simp only [Act.put, List.setIfInBounds_toArray, List.set_cons_zero, List.set_cons_succ]
            refine wpAnyL_one (j := 11) (by kernel_rfl) rfl (by rfl) (fun K hK => ?_)
            go_simp
            refine (HMK.out _ (HBC.out.trans (HS0.mono HBC.out.size))).mono ?_
            rintro e w3 ⟨aF, cF, aL, cL, rfl, hF3, hL3, hb, hfr⟩
            have HS1 : Below wc.heap.size wc w3 := HS0.trans (hb.mono HS0.size)
            have HF3 := Lib.hid hF3
            have HL3 := Lib.hid hL3
            have HFR := Lib.hid hfr
            clear hF3 hL3 hb hfr
            refine hK _ _ (fun _ => HS1) ?_
            clear hK K
            try simp only [Act.put, List.setIfInBounds_toArray, List.set_cons_zero, List.set_cons_succ]
            refine wpAnyL_one (j := 12) (by kernel_rfl) rfl (by rfl) (fun K hK => ?_)
            go_simp
            refine hK _ _ (fun _ => HS1) ?_
            clear hK K
            try simp only [Act.put, List.setIfInBounds_toArray, List.set_cons_zero, List.set_cons_succ]
            refine wpAnyL_one (j := 13) (by kernel_rfl) rfl (by rfl) (fun K hK => ?_)
            have hE3 : EffBox w3 B ⟨keyT y0, false, Li.zero⟩ := (HS1.block B hBc).trans HEB.out
            obtain ⟨⟨c0, c1, c2, c3, c4, c5, c6⟩, z0, z1, z2, z3, z4, z5, z6⟩ := hE3.at
            have HE3 := Lib.hid hE3
            clear hE3
            go_simp
            refine hK _ _ (fun h => (h rfl).elim) ?_
            clear hK K
            try simp only [Act.put, List.setIfInBounds_toArray, List.set_cons_zero, List.set_cons_succ]
            refine wpAnyL_done (by kernel_rfl) ?_ _
            go_wp2_with fail
            go_meet
            case rel => exact efR_stored hBr hBc HBC.out HS1 HE3.out HF3.out HL3.out HFR.out (by have := HSL.out.1; simp only at this; omega) HOW.out
        case rest =>
          obtain ⟨⟨ik, is, aF, ifs, cF, aL, iws, cL, ix⟩, rfl, hE2, hpi, hpok, hpf, hbw⟩ := hcut
          obtain ⟨⟨d0, d1, d2, d3, d4, d5, d6⟩, -⟩ := hE2.at
          have HR2 := Lib.hid (HR.out.later hbw)
          have HPI := Lib.hid hpi
          have HPO := Lib.hid hpok
          have HPF := Lib.hid hpf
          have hkl := keyT_len y0
          have hbz := HR2.out.2.1.size
          clear hE2 hpi hpok hpf hbw c0 c1 c2 c3 c4 c5 c6 z0 z1 z2 z3 z4 z5 z6 x2
          go_wp2_with (at_builtin; refine wpList_append_lies _ rfl (.tmp 47) (.tmp 49) 24 rfl w.heap.size 61 iE _ 7 104 Try.underlying24 hiE hiE0 hiE1 hiE2 rfl (by decide) (.slice a q ca) out.length ((out.map Le.cs).flatten) rfl (ownsRow_later HR2.out.1 ((Below.refl _ _).alloc (Nat.le_refl _) _)) ⟨wc.heap.size, 0, none⟩ 1 1 [.string ⟨(keyT y0).toArray⟩, .bool g, .int .i64 ik, .string ⟨is.toArray⟩, .slice aF ifs.length cF, .slice aL iws.length cL, .int .i64 ix] rfl rfl (row_news wc _ rfl _ _) (Le.cs_one ⟨keyT y0, g, ik, is, aF, ifs, cF, aL, iws, cL, ix⟩) (by decide) (by unfold maxLen; omega) (by omega) (by simp; omega) _ rfl ?_; intro g' cp w4 hown hgrow hat hlt3; have HR4 := Lib.hid (RowX.append (e := ⟨keyT y0, g, ik, is, aF, ifs, cF, aL, iws, cL, ix⟩) HR2.out hown hgrow hat ⟨by show (keyT y0).length ≤ _; omega, HPO.out⟩ HPF.out); clear hown hgrow hat)
          have hiq := HI.out
          have hmap : (out ++ [(⟨keyT y0, g, ik, is, aF, ifs, cF, aL, iws, cL, ix⟩ : Le)]).map Le.e = effsT ns (q + 1) := by
            rw [List.map_append, HM.out, effsT_snoc]
            congr 1
            obtain ⟨h0, h1, h2⟩ := HYS.out
            have hgg : decide ((ns.getD (I + 1) 0).toNat % 4 = 0) = g := by
              rw [← HG.out, ← h1]
              congr 1
              apply propext
              omega
            show [(⟨keyT y0, g, ⟨ik, is, ifs, iws, ix⟩⟩ : Db.E)] = _
            rw [show (⟨ik, is, ifs, iws, ix⟩ : It.I) = _ from HPI.out, ← HMI.out, ← h0, ← h2, ← hiq, ← hgg]
            rfl
          have HMM := Lib.hid hmap
          clear hmap hiq
          go_roundw
          case rel => exact ⟨q + 1, I + 4, _, by have := HI.out; omega, by omega, by omega, by go_num, by simp [hol], HMM, Lib.hid (by rw [← hol]; exact HR4.out)⟩
          case measure => simp [intOf]; omega
    · have hiq := hI
      have hmin : min 40 (ns.length / 4) = q := by omega
      have HI := Lib.hid hI
      have HN := Lib.hid hmin
      clear hI hiq hmin
      by_cases h1 : I + 3 < ns.length
      · have k3 : (I : Int) + 3 < (ns.length : Int) := by omega
        have k40 : ¬ (q : Int) < 40 := by omega
        go_wp2
        go_ret
        exact ⟨_, rfl, out, by rw [HN.out]; exact HM.out, HR.out⟩
      · have k3 : ¬ (I : Int) + 3 < (ns.length : Int) := by omega
        go_wp2
        go_ret
        exact ⟨_, rfl, out, by rw [HN.out]; exact HM.out, HR.out⟩
end Go.Proofs.Ytihleddhjmejoaa
