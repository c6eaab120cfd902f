/- The contract of the reference's HSet. The contracts of the reference's SHas and SAdd. What the statements' own Make makes of numbers, as plain data; that it is valid. No program in it. The contract of item.Copy. Slices of bytes that came in; what Make tells; a byte as a text. Where a row lies. -/
import Derived.Test.YtihleddhjmejoaaMD07
import Derived.Test.YtihleddhjmejoaaMD16
import Derived.Test.YtihleddhjmejoaaMD17
import Derived.Test.YtihleddhjmejoaaMD04
import Derived.Test.YtihleddhjmejoaaMD15
import Derived.Maps.OwnIn
import Derived.Deep.Cut
import Derived.Laws.AppendOwnNone
import Derived.Deep.RegionHeld3
import Derived.Deep.AppendLies
import Derived.Deep.DeepCutAuto
import Derived.Test.YtihleddhjmejoaaMD06
import Derived.BigQuiet
import Derived.IntWalk
namespace Go.Proofs.Ytihleddhjmejoaa
open Go.RowKit Go.Shelf

set_option linter.unusedVariables false
set_option linter.unusedSimpArgs false

end Go.Proofs.Ytihleddhjmejoaa
namespace Go.Proofs.Ytihleddhjmejoaa
open Go.RowKit Go.Shelf
set_option linter.unusedVariables false
set_option linter.unusedSimpArgs false

end Go.Proofs.Ytihleddhjmejoaa
namespace Go.Proofs.Ytihleddhjmejoaa
namespace Mk
open It

/-- the text of a number. -/
def sOf (b : UInt8) : List UInt8 := UInt8.ofNat (97 + b.toNat % 5) :: Dig.dec ((b.toNat % 3 : Nat) : Int)
/-- the value of a number. -/
def vOf (b : UInt8) : List UInt8 := Dig.dec ((b.toNat : Int) - 100)
def sF (r : List UInt8) : List UInt8 := r.flatMap sOf
def fF (r : List UInt8) : List F := r.foldl (fun f b => hset f (sOf b) (vOf b)) []
def lF (r : List UInt8) : List (List UInt8) := r.map sOf
def aF (r : List UInt8) : List (List UInt8) := r.foldl (fun l b => sadd l (sOf b)) []
theorem sF_snoc (r : List UInt8) (b : UInt8) : sF (r ++ [b]) = sF r ++ sOf b := by simp [sF]
theorem fF_snoc (r : List UInt8) (b : UInt8) : fF (r ++ [b]) = hset (fF r) (sOf b) (vOf b) := by simp [fF, List.foldl_append]
theorem lF_snoc (r : List UInt8) (b : UInt8) : lF (r ++ [b]) = lF r ++ [sOf b] := by simp [lF]
theorem aF_snoc (r : List UInt8) (b : UInt8) : aF (r ++ [b]) = sadd (aF r) (sOf b) := by simp [aF, List.foldl_append]

def mkK (K e : Int) (r : List UInt8) : I :=
  if K = 1 then ⟨1, sF r, [], [], e⟩ else if K = 2 then ⟨2, [], fF r, [], e⟩ else if K = 3 then ⟨3, [], [], lF r, e⟩ else ⟨4, [], [], aF r, e⟩
def eOf (x : Int) : Int := if x % 3 = 0 then x else 0
def mk : List UInt8 → Int → I
  | [], _ => ⟨1, [], [], [], 0⟩
  | n :: r, x => if r = [] ∧ n.toNat % 4 ≠ 0 then ⟨1, Dig.dec (n.toNat : Int), [], [], eOf x⟩ else mkK (1 + ((n.toNat % 4 : Nat) : Int)) (eOf x) (r.take 8)

theorem small : (List.range 256).all (fun n => (sOf (UInt8.ofNat n)).length == 2 && decide ((vOf (UInt8.ofNat n)).length ≤ 4) && decide ((Dig.dec (n : Int)).length ≤ 3)) = true := by decide +kernel
theorem small_at (b : UInt8) : (sOf b).length = 2 ∧ (vOf b).length ≤ 4 ∧ (Dig.dec (b.toNat : Int)).length ≤ 3 := by
  have h := List.all_eq_true.1 small b.toNat (List.mem_range.2 (UInt8.toNat_lt b))
  simp only [Bool.and_eq_true, beq_iff_eq, decide_eq_true_eq, UInt8.ofNat_toNat] at h
  exact ⟨h.1.1, h.1.2, h.2⟩

theorem sF_len (r : List UInt8) : (sF r).length = 2 * r.length := by
  induction r with
  | nil => rfl
  | cons b r ih =>
    have := (small_at b).1
    simp only [sF, List.flatMap_cons, List.length_append, List.length_cons] at ih ⊢
    omega

/-- what is known of the fields, of the members. -/
def OkF (m : Nat) (f : List F) : Prop := upF f ∧ f.length ≤ m ∧ (0 < m → 0 < f.length) ∧ ∀ p ∈ f, p.1.length = 2 ∧ p.2.length ≤ 4
def OkA (m : Nat) (l : List (List UInt8)) : Prop := upS l ∧ l.length ≤ m ∧ (0 < m → 0 < l.length) ∧ ∀ p ∈ l, p.length = 2

theorem hset_ne (l : List F) (n v : List UInt8) (h : upF l) : 0 < (hset l n v).length := by
  obtain ⟨i1, i2, i3, i4⟩ := round_H n v l h
  unfold hset
  cases hb : (foldH n v l).2 with
  | false => simp
  | true =>
    rw [if_pos rfl]
    suffices H : ∀ m, m ≤ l.length → (foldH n v (l.take m)).2 = true → 0 < (foldH n v (l.take m)).1.length by
      have := H l.length (Nat.le_refl _)
      simpa [hb] using this
    intro m
    induction m with
    | zero => intro _ h; simp [foldH] at h
    | succ m ih =>
      intro hm hh
      have e : l.take (m + 1) = l.take m ++ [l[m]] := (List.take_append_getElem (by omega)).symm
      rw [e, foldH_snoc] at hh ⊢
      have ih' := ih (by omega)
      generalize foldH n v (l.take m) = q at *
      obtain ⟨out, b⟩ := q
      simp only at ih'
      cases b <;> by_cases h1 : (l[m]).1 < n <;> by_cases h2 : (l[m]).1 = n <;> simp [stepH, h1, h2] at hh ih' ⊢
      all_goals exact ih'
theorem sadd_ne (l : List (List UInt8)) (s : List UInt8) : 0 < (sadd l s).length := by
  unfold sadd
  split
  · rename_i h
    unfold hasB at h
    rw [List.any_eq_true] at h
    obtain ⟨t, ht, _⟩ := h
    exact List.length_pos_of_mem ht
  · simp; omega

theorem fF_ok (r : List UInt8) : OkF r.length (fF r) := by
  suffices H : ∀ m, m ≤ r.length → OkF m (fF (r.take m)) by simpa using H r.length (Nat.le_refl _)
  intro m
  induction m with
  | zero => intro _; exact ⟨List.Pairwise.nil, Nat.le_refl _, fun h => by omega, fun p hp => by simp [fF] at hp⟩
  | succ m ih =>
    intro hm
    have e : r.take (m + 1) = r.take m ++ [r[m]] := (List.take_append_getElem (by omega)).symm
    obtain ⟨h1, h2, h3, h4⟩ := ih (by omega)
    rw [e, fF_snoc]
    obtain ⟨u1, u2⟩ := hset_up (sOf r[m]) (vOf r[m]) _ h1
    have hl := hset_len (sOf r[m]) (vOf r[m]) (fF (r.take m))
    refine ⟨u1, by omega, fun _ => hset_ne _ _ _ h1, fun p hp => ?_⟩
    rcases u2 p hp with rfl | hp
    · exact ⟨(small_at _).1, (small_at _).2.1⟩
    · exact h4 p hp
theorem aF_ok (r : List UInt8) : OkA r.length (aF r) := by
  suffices H : ∀ m, m ≤ r.length → OkA m (aF (r.take m)) by simpa using H r.length (Nat.le_refl _)
  intro m
  induction m with
  | zero => intro _; exact ⟨List.Pairwise.nil, Nat.le_refl _, fun h => by omega, fun p hp => by simp [aF] at hp⟩
  | succ m ih =>
    intro hm
    have e : r.take (m + 1) = r.take m ++ [r[m]] := (List.take_append_getElem (by omega)).symm
    obtain ⟨h1, h2, h3, h4⟩ := ih (by omega)
    rw [e, aF_snoc]
    obtain ⟨u1, u2, u3⟩ := sadd_up (aF (r.take m)) (sOf r[m]) h1
    refine ⟨u1, by omega, fun _ => sadd_ne _ _, fun p hp => ?_⟩
    rcases u2 p hp with rfl | hp
    · exact (small_at _).1
    · exact h4 p hp

/-- another end of life. -/
def withE (i : I) (y : Int) : I := ⟨i.kind, i.s, i.f, i.l, y⟩
theorem withE_mkK (K e y : Int) (t : List UInt8) : withE (mkK K e t) y = mkK K y t := by
  unfold mkK withE
  split
  · rfl
  · split
    · rfl
    · split <;> rfl
theorem may_of (i : I) (h0 : 0 ≤ i.exp) (h1 : i.exp ≤ 9007199254740992) (hf : fitsB i = true) (ht : ∀ s ∈ textsS i, s.length ≤ 300) : mayB i = true := by
  unfold mayB
  rw [decide_eq_true h0, decide_eq_true h1, hf, List.all_eq_true.2 fun s hs => decide_eq_true (ht s hs)]
  rfl
/-- what is made may be. -/
theorem mk_may (ns : List UInt8) (x y : Int) (hy0 : 0 ≤ y) (hy : y ≤ 9007199254740992) : mayB (withE (mk ns x) y) = true := by
  cases ns with
  | nil => exact may_of _ hy0 hy rfl (fun s hs => by simp [withE, mk, textsS, fieldsS] at hs; subst hs; simp)
  | cons n r =>
    by_cases hr : r = [] ∧ n.toNat % 4 ≠ 0
    · rw [show mk (n :: r) x = ⟨1, Dig.dec (n.toNat : Int), [], [], eOf x⟩ from if_pos hr]
      have := (small_at n).2.2
      exact may_of _ hy0 hy rfl (fun s hs => by simp [withE, textsS, fieldsS] at hs; subst hs; omega)
    · rw [show mk (n :: r) x = mkK (1 + ((n.toNat % 4 : Nat) : Int)) (eOf x) (r.take 8) from if_neg hr, withE_mkK]
      have hlen : (r.take 8).length ≤ 8 := by rw [List.length_take]; omega
      have hpos : n.toNat % 4 ≠ 0 → 0 < (r.take 8).length := fun h => by
        cases r with
        | nil => exact absurd ⟨rfl, h⟩ hr
        | cons a r => simp
      generalize r.take 8 = t at *
      have hk : n.toNat % 4 = 0 ∨ n.toNat % 4 = 1 ∨ n.toNat % 4 = 2 ∨ n.toNat % 4 = 3 := by omega
      rcases hk with hk | hk | hk | hk
      · rw [hk]
        have := sF_len t
        exact may_of ⟨1, sF t, [], [], y⟩ hy0 hy rfl (fun s hs => by simp [textsS, fieldsS] at hs; subst hs; omega)
      · have hp := hpos (by omega)
        rw [hk]
        obtain ⟨u1, u2, u3, u4⟩ := fF_ok t
        have u3 := u3 hp
        have r1 : risB (names ⟨2, [], fF t, [], y⟩) = true := ris_of_upF u1
        refine may_of ⟨2, [], fF t, [], y⟩ hy0 hy ?_ (fun s hs => ?_)
        · simp only [fitsB, r1, countB]
          rw [decide_eq_true (show 1 ≤ (fF t).length by omega), decide_eq_true (show (fF t).length ≤ 40 by omega)]
          rfl
        · simp only [textsS, fieldsS, List.mem_cons, List.mem_append, List.mem_flatMap, List.not_mem_nil, or_false] at hs
          rcases hs with rfl | ⟨p, hp', rfl | rfl⟩
          · simp
          · have := u4 p hp'; omega
          · have := u4 p hp'; omega
      · have hp := hpos (by omega)
        rw [hk]
        have hl : (lF t).length = t.length := by simp [lF]
        refine may_of ⟨3, [], [], lF t, y⟩ hy0 hy ?_ (fun s hs => ?_)
        · simp only [fitsB, countB]
          rw [decide_eq_true (show 1 ≤ (lF t).length by omega), decide_eq_true (show (lF t).length ≤ 40 by omega)]
          rfl
        · simp only [textsS, fieldsS, List.flatMap_nil, List.nil_append, List.mem_cons, lF, List.mem_map] at hs
          rcases hs with rfl | ⟨b, _, rfl⟩
          · simp
          · have := (small_at b).1; omega
      · have hp := hpos (by omega)
        rw [hk]
        obtain ⟨u1, u2, u3, u4⟩ := aF_ok t
        have u3 := u3 hp
        have r1 : risB (aF t) = true := ris_of_up u1
        refine may_of ⟨4, [], [], aF t, y⟩ hy0 hy ?_ (fun s hs => ?_)
        · simp only [fitsB, r1, countB]
          rw [decide_eq_true (show 1 ≤ (aF t).length by omega), decide_eq_true (show (aF t).length ≤ 40 by omega)]
          rfl
        · simp only [textsS, fieldsS, List.flatMap_nil, List.nil_append, List.mem_cons] at hs
          rcases hs with rfl | hs
          · simp
          · have := u4 s hs; omega
end Mk
end Go.Proofs.Ytihleddhjmejoaa
namespace Go.Proofs.Ytihleddhjmejoaa
set_option linter.unusedVariables false
open Go.RowKit Go.Shelf

end Go.Proofs.Ytihleddhjmejoaa
namespace Go.Proofs.Ytihleddhjmejoaa
open Go.RowKit Go.Shelf
set_option linter.unusedVariables false

theorem conv_at (W : World) (b : Nat) (x : Int) (h : W.cell? ⟨b, 0, none⟩ = some (.int .u8 x)) :
    (convert 48 9 (.slice (some ⟨b, 0, none⟩) 1 1)).run Try.prog W = .ok (.string ⟨#[UInt8.ofNat x.toNat]⟩) W := by
  rw [run_convert_bytes_string _ _ _ _ _ _ _ Try.underlying48 Try.underlying5 Try.underlying9]
  have hl := run_loadCells_list (P := Try.prog) W ⟨b, 0, none⟩ ([x].map (Value.int .u8)) (fun j v hj => by
    match j, hj with
    | 0, hj =>
      simp at hj
      subst hj
      simpa [Addr.add] using h)
  simp only [List.length_map, List.length_cons, List.length_nil] at hl
  rw [run_bytesToString _ _ _ _ [x] hl]
  rfl

/-- what Make tells. -/
def MadeOut (i : It.I) (w : World) (e : Ending) (W : World) : Prop :=
  ∃ aF cF aL cL, e = .returned (itv i.kind i.s aF i.f.length cF aL i.l.length cL i.exp) ∧ Fds W aF cF i.f ∧ Wds W aL cL i.l ∧ Below w.heap.size w W

/-- the item's lists are new. -/
def Fresh (w : World) (aF : Option Addr) (cF : Nat) (aL : Option Addr) (cL : Nat) : Prop :=
  (∀ g o, aF = some ⟨g, o, none⟩ → w.heap.size ≤ g) ∧ (∀ g o, aL = some ⟨g, o, none⟩ → w.heap.size ≤ g) ∧ (aF = none → cF = 0) ∧ (aL = none → cL = 0)
theorem fresh_none (w : World) : Fresh w none 0 none 0 := ⟨fun _ _ e => (by cases e), fun _ _ e => (by cases e), fun _ => rfl, fun _ => rfl⟩
/-- .. and that its lists are new. -/
def MadeAt (i : It.I) (w : World) (e : Ending) (W : World) : Prop :=
  ∃ aF cF aL cL, e = .returned (itv i.kind i.s aF i.f.length cF aL i.l.length cL i.exp) ∧ Fds W aF cF i.f ∧ Wds W aL cL i.l ∧ Below w.heap.size w W ∧ Fresh w aF cF aL cL
theorem MadeAt.out {i : It.I} {w W : World} {e : Ending} (h : MadeAt i w e W) : MadeOut i w e W := by
  obtain ⟨aF, cF, aL, cL, he, hF, hL, hb, -⟩ := h
  exact ⟨aF, cF, aL, cL, he, hF, hL, hb⟩

/-- the boxes behind Make's head. -/
def MkAt (w : World) (K e : Int) (wx : World) : Prop :=
  ItBox wx (w.heap.size + 1) K [] none 0 0 none 0 0 e ∧ ItBox wx w.heap.size 0 [] none 0 0 none 0 0 0 ∧ Below w.heap.size w wx ∧ wx.heap.size = w.heap.size + 2
theorem mkAt_new (w : World) (K : Int) : MkAt w K 0 ((w.alloc (.cells #[.int .i64 0, .string ⟨#[]⟩, .slice none 0 0, .slice none 0 0, .int .i64 0] 59)).alloc (.cells #[.int .i64 K, .string ⟨#[]⟩, .slice none 0 0, .slice none 0 0, .int .i64 0] 59)) := by
  refine ⟨?_, ?_, ((Below.refl _ w).alloc (Nat.le_refl _) _).alloc (by simp) _, by simp⟩
  · have := ItBox.new (w.alloc (itc 0 [] none 0 0 none 0 0 0)) K [] none 0 0 none 0 0 0
    rwa [World.size_alloc] at this
  · exact ItBox.later (ItBox.new w 0 [] none 0 0 none 0 0 0) ((Below.refl _ _).alloc (Nat.le_refl _) _)
theorem mkAt_exp (w : World) (K x : Int) : MkAt w K x ((w.alloc (.cells #[.int .i64 0, .string ⟨#[]⟩, .slice none 0 0, .slice none 0 0, .int .i64 0] 59)).alloc (.cells #[.int .i64 K, .string ⟨#[]⟩, .slice none 0 0, .slice none 0 0, .int .i64 x] 59)) := by
  refine ⟨?_, ?_, ((Below.refl _ w).alloc (Nat.le_refl _) _).alloc (by simp) _, by simp⟩
  · have := ItBox.new (w.alloc (itc 0 [] none 0 0 none 0 0 0)) K [] none 0 0 none 0 0 x
    rwa [World.size_alloc] at this
  · exact ItBox.later (ItBox.new w 0 [] none 0 0 none 0 0 0) ((Below.refl _ _).alloc (Nat.le_refl _) _)

/-- what the rounds have made: a text. -/
def MkS (wx : World) (B : Nat) (e : Int) (s : List UInt8) (wr : World) : Prop := ItBox wr B 1 s none 0 0 none 0 0 e ∧ Keeps (fun j => j ≠ B) wx wr
/-- fields. -/
def MkF (wx : World) (B : Nat) (e : Int) (f : List (List UInt8 × List UInt8)) (wr : World) : Prop :=
  ∃ a c, ItBox wr B 2 [] a f.length c none 0 0 e ∧ wr.ownsRow wx.heap.size 87 2 (.slice a f.length c) f.length (fcells f) ∧ Keeps (fun j => j ≠ B) wx wr
/-- texts. -/
def MkL (wx : World) (B : Nat) (K e : Int) (l : List (List UInt8)) (wr : World) : Prop :=
  ∃ a c, ItBox wr B K [] none 0 0 a l.length c e ∧ wr.ownsRow wx.heap.size 9 1 (.slice a l.length c) l.length (wcells l) ∧ Keeps (fun j => j ≠ B) wx wr ∧ (l = [] → a = none ∧ c = 0)
theorem mk_below {w wx wr : World} {B : Nat} (hB : B = w.heap.size + 1) (hb : Below w.heap.size w wx) (hz : wx.heap.size = w.heap.size + 2) (h : Keeps (fun j => j ≠ B) wx wr) : Below w.heap.size w wr :=
  hb.trans (h.below (by omega) fun j hj => by omega)
theorem MkS.below {w wx wr : World} {e : Int} {s : List UInt8} (hb : Below w.heap.size w wx) (hz : wx.heap.size = w.heap.size + 2) (h : MkS wx (w.heap.size + 1) e s wr) : Below w.heap.size w wr := mk_below rfl hb hz h.2
theorem MkF.below {w wx wr : World} {e : Int} {f : List (List UInt8 × List UInt8)} (hb : Below w.heap.size w wx) (hz : wx.heap.size = w.heap.size + 2) (h : MkF wx (w.heap.size + 1) e f wr) : Below w.heap.size w wr := by
  obtain ⟨_, _, _, _, h⟩ := h
  exact mk_below rfl hb hz h
theorem MkL.below {w wx wr : World} {K e : Int} {l : List (List UInt8)} (hb : Below w.heap.size w wx) (hz : wx.heap.size = w.heap.size + 2) (h : MkL wx (w.heap.size + 1) K e l wr) : Below w.heap.size w wr := by
  obtain ⟨_, _, _, _, h, _⟩ := h
  exact mk_below rfl hb hz h
theorem new9 (w : World) (x : Value) : (w.alloc (.cells #[x] 5)).drew.cell? ⟨w.heap.size, 0, none⟩ = some x := by
  rw [World.cell?_drew]
  exact World.news_of_block (World.alloc_heap_new w _) 0 _ rfl
theorem new9b (w : World) (x : Value) : (w.alloc (.cells #[x] 5)).cell? ⟨w.heap.size, 0, none⟩ = some x := World.news_of_block (World.alloc_heap_new w _) 0 _ rfl

theorem mk_keeps {wx wr wc : World} {B : Nat} (hk : Keeps (fun j => j ≠ B) wx wr) (hb : Keeps (fun j => j < wx.heap.size) wr wc) (p : Addr) (hp : p.block = B) (v : Value) : Keeps (fun j => j ≠ B) wx (wc.setCell p v) := by
  have a1 : Keeps (fun j => j ≠ B ∧ j < wx.heap.size) wx wr := hk.mono fun _ _ h => h.1
  have a2 : Keeps (fun j => j ≠ B ∧ j < wx.heap.size) wr wc := hb.mono fun _ _ h => h.2
  exact ((a1.trans a2).setCell (p := p) (.inr fun h => h.1 hp) v).mono fun j hj h => ⟨h, hj⟩
theorem mkS_step {wx wr wc : World} {B : Nat} {e : Int} {s : List UInt8} (h : MkS wx B e s wr) (hb : Below wr.heap.size wr wc) (s' : List UInt8) : MkS wx B e s' (wc.setCell ⟨B, 1, none⟩ (.string ⟨s'.toArray⟩)) :=
  ⟨ItBox.set1 (ItBox.later h.1 hb) s', mk_keeps h.2 (Keeps.of_below hb fun j hj _ => hj) _ rfl _⟩
theorem mkF_step {wx wr wc : World} {B : Nat} {e : Int} {f f' : List (List UInt8 × List UInt8)} {a : Option Addr} {n c : Nat} {a' : Option Addr} {c' base : Nat} (hk : Keeps (fun j => j ≠ B) wx wr) (hb : Keeps (fun j => j < wx.heap.size) wr wc) (hx : ItBox wc B 2 [] a n c none 0 0 e) (hB : B < wx.heap.size) (hbase : wx.heap.size ≤ base)
    (ho : wc.ownsRow base 87 2 (.slice a' f'.length c') f'.length (fcells f')) : MkF wx B e f' (wc.setCell ⟨B, 2, none⟩ (.slice a' f'.length c')) :=
  ⟨a', c', hx.set2 _ _ _, owns_base (owns_kept (S := fun j => j ≠ B) ho ((Keeps.refl _ wc).setCell (.inr fun h => h rfl) _) fun g hg => by have := (ho.lt g hg).1; omega) hbase, mk_keeps hk hb _ rfl _⟩
theorem mkL_step {wx wr wc : World} {B : Nat} {K e : Int} {l' : List (List UInt8)} {a : Option Addr} {n c : Nat} {a' : Option Addr} {c' base : Nat} (hk : Keeps (fun j => j ≠ B) wx wr) (hb : Keeps (fun j => j < wx.heap.size) wr wc) (hx : ItBox wc B K [] none 0 0 a n c e) (hB : B < wx.heap.size) (hbase : wx.heap.size ≤ base)
    (ho : wc.ownsRow base 9 1 (.slice a' l'.length c') l'.length (wcells l')) (hne : l' ≠ []) : MkL wx B K e l' (wc.setCell ⟨B, 3, none⟩ (.slice a' l'.length c')) :=
  ⟨a', c', hx.set3 _ _ _, owns_base (owns_kept (S := fun j => j ≠ B) ho ((Keeps.refl _ wc).setCell (.inr fun h => h rfl) _) fun g hg => by have := (ho.lt g hg).1; omega) hbase, mk_keeps hk hb _ rfl _, fun h => absurd h hne⟩

/-- the text of a number. -/
theorem sOf_str (b : UInt8) (y : Int) (h : (b.toNat : Int) = y) : (⟨#[UInt8.ofNat (97 + y % 5).toNat]⟩ : ByteArray) ++ ⟨(Dig.dec (y % 3)).toArray⟩ = ⟨(Mk.sOf b).toArray⟩ := by
  rw [str_cons]
  unfold Mk.sOf
  have h1 : (97 + y % 5).toNat = 97 + b.toNat % 5 := by omega
  have h2 : y % 3 = ((b.toNat % 3 : Nat) : Int) := by omega
  rw [h1, h2]
theorem dec3_len (y : Int) : (Dig.dec (y % 3)).length ≤ 1 := by
  have h : y % 3 = 0 ∨ y % 3 = 1 ∨ y % 3 = 2 := by omega
  rcases h with h | h | h <;> rw [h] <;> decide +kernel
theorem vOf_str (b : UInt8) (y : Int) (h : (b.toNat : Int) = y) : Dig.dec (y - 100) = Mk.vOf b := by rw [← h]; rfl
theorem take_snoc8 {r : List UInt8} {q : Nat} (h : q < r.length) : r.take (q + 1) = r.take q ++ [r.getD q 0] := by
  rw [take_succ_getD (d := (0 : UInt8)) h]
theorem take_all8 {r : List UInt8} {q gk : Nat} (hq : q ≤ r.length) (h8 : q + gk = 8) (hgo : ¬ (q < r.length ∧ q < 8)) : r.take q = r.take 8 := by
  rcases Nat.lt_or_ge q 8 with h | h
  · have : q = r.length := by omega
    rw [this, List.take_length, List.take_of_length_le (by omega)]
  · rw [show q = 8 by omega]
end Go.Proofs.Ytihleddhjmejoaa
