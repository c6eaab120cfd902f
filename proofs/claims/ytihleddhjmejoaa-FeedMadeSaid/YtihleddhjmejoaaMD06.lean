/- Feeds and what is told of them, as plain data. No program in it. A region that draws its order, whose last operation (number f: a store that waits for all the others) may write the very cells that its loads read: the condition S is asked behind each operation but f. What is told of a []byte that came in; bytes of strings. For any seat. Decimals of numbers, plain. The contract of the reference's Digits. -/
import Derived.Test.YtihleddhjmejoaaMD05
import Derived.Test.YtihleddhjmejoaaProg
import Derived.Deep.RegionHeld
import Derived.Below
import Derived.BigQuiet
import Derived.Deep.Cut
import Derived.Deep.CutRange
import Derived.Deep.DeepCutAuto
import Derived.Deep.DeepFit
import Derived.IntWalk
import Derived.Laws.BitsAllLaws
import Derived.Laws.IdiomStrings
import Derived.Lib.Hide
import Derived.LoopNIn
import Derived.LoopTactic
import Derived.Maps.OwnIn
import Derived.Outline
import Derived.OwnWalkIn
import Derived.RangeFuncRecord
import Derived.Shelf.Abstract
import Derived.TacticsInMore
import Derived.WalkKit
import Derived.WalkLawsBesides
import Derived.WalkMore
import Derived.WalkSpells
namespace Go.Proofs.Ytihleddhjmejoaa
namespace Fd
set_option linter.unusedVariables false

/-- a feed. -/
structure F where
  rn : Int
  re : Int
  off : Int
  back : List Db.E
  pn : Int
  pe : Int
  unt : Int
/-- what is told to a replica. -/
structure M where
  k : Int
  rn : Int
  re : Int
  pn : Int
  pe : Int
  off : Int
  es : List Db.E
def F.zero : F := ⟨0, 0, 0, [], 0, 0, 0⟩
/-- the last ones, at most 64. -/
def last (l : List Db.E) : List Db.E := l.drop (l.length - 64)
def add (f : F) (l : List Db.E) : F := { f with off := f.off + (l.length : Int), back := last (f.back ++ l) }
/-- the offset ahead of the first that is kept. -/
def first (f : F) : Int := f.off - (f.back.length : Int)
def shared (f : F) (rn re off : Int) : Bool := (decide (rn = f.rn) && decide (re = f.re)) || ((decide (rn = f.pn) && decide (re = f.pe)) && decide (off ≤ f.unt))
def here (f : F) (rn re off : Int) : Bool := shared f rn re off && decide (first f ≤ off) && decide (off ≤ f.off)
def part (f : F) (off : Int) : List Db.E := (f.back.drop (off - first f).toNat).take 16
def answer (f : F) (all : List Db.E) (rn re off : Int) : M :=
  if here f rn re off = true then ⟨5, f.rn, f.re, rn, re, off, part f off⟩ else ⟨6, f.rn, f.re, 0, 0, f.off, all⟩
/-- the two cases. -/
def onB (f : F) (m : M) : Bool := decide (m.k = 5) && (decide (m.pn = f.rn) && decide (m.pe = f.re)) && decide (m.off = f.off)
def sup (f : F) (m : M) : Bool := !decide (m.rn = f.rn) || decide (f.re < m.re) || ((decide (m.rn = f.rn) && decide (m.re = f.re)) && decide (f.off < m.off))
def fullB (f : F) (m : M) : Bool := decide (m.k = 6) && sup f m
def turned (f : F) (m : M) : Bool := !(decide (m.rn = f.rn) && decide (m.re = f.re))
def onward (f : F) (m : M) : F := if turned f m = true then { add f m.es with rn := m.rn, re := m.re, pn := f.rn, pe := f.re, unt := f.off } else add f m.es
def gotF (f : F) (m : M) : F := if onB f m = true then onward f m else if fullB f m = true then ⟨m.rn, m.re, m.off, [], 0, 0, 0⟩ else f
def gotD (f : F) (db : List Db.P) (m : M) : List Db.P := if onB f m = true then Db.app db m.es else if fullB f m = true then Db.app [] m.es else db
def gotB (f : F) (m : M) : Bool := onB f m || fullB f m
/-- two are one. -/
def same (a b : F) : Bool := decide (a.rn = b.rn) && decide (a.re = b.re) && decide (a.off = b.off) && (decide (a.pn = b.pn) && decide (a.pe = b.pe)) && decide (a.unt = b.unt) && Db.sameES a.back b.back
def sameM (a b : M) : Bool := decide (a.k = b.k) && (decide (a.rn = b.rn) && decide (a.re = b.re)) && (decide (a.pn = b.pn) && decide (a.pe = b.pe)) && decide (a.off = b.off) && Db.sameES a.es b.es
theorem last_len (l : List Db.E) : (last l).length ≤ 64 := by unfold last; rw [List.length_drop]; omega
theorem last_le (l : List Db.E) : (last l).length ≤ l.length := by unfold last; rw [List.length_drop]; omega
theorem last_few {l : List Db.E} (h : l.length ≤ 64) : last l = l := by unfold last; rw [Nat.sub_eq_zero_of_le h]; rfl
theorem add_nil {f : F} (h : f.back.length ≤ 64) : add f [] = f := by
  unfold add
  rw [List.append_nil, last_few h]
  simp
theorem last_last (a b : List Db.E) : last (last a ++ b) = last (a ++ b) := by
  unfold last
  simp only [List.length_append, List.length_drop]
  by_cases h : a.length ≤ 64
  · rw [Nat.sub_eq_zero_of_le h]; simp
  · rw [List.drop_append, List.drop_append, List.drop_drop]
    simp only [List.length_drop]
    congr 2 <;> omega
end Fd
end Go.Proofs.Ytihleddhjmejoaa
namespace Go.Proofs.Ytihleddhjmejoaa
section
variable {P : Program} {ops : Array Oper} {Q : Exit → Act → World → Prop} {md : Region.Mode} {S : World → Prop} {f : Nat}

/-- whatever order is picked from here on; behind each operation but f the condition holds. -/
def wpAnyL (P : Program) (md : Region.Mode) (ops : Array Oper) (Q : Exit → Act → World → Prop) (S : World → Prop) (f : Nat) : Nat → Array Bool → Act → World → Prop
  | 0, listed, a, w => Region.ready md ops listed = [] ∧ Q .normal a w
  | fuel + 1, listed, a, w =>
    (Region.ready md ops listed = [] → Q .normal a w) ∧
    ∀ i ∈ Region.ready md ops listed, wpOp P ops Q i (fun a' w' => (i ≠ f → S w') ∧ wpAnyL P md ops Q S f fuel (listed.setIfInBounds i true) a' w') a w

theorem wpAny_of_L : ∀ (fuel : Nat) (listed : Array Bool) (a : Act) (w : World), wpAnyL P md ops Q S f fuel listed a w → wpAny P md ops Q fuel listed a w
  | 0, _, _, _, h => h
  | fuel + 1, _, _, _, h => ⟨h.1, fun i hi => wpOp_mono (fun a' w' h' => wpAny_of_L fuel _ a' w' h'.2) (h.2 i hi)⟩

/-- operation f waits for operation i. -/
def waits (md : Region.Mode) (ops : Array Oper) (f i : Nat) : Bool := ((ops[f]?).map fun o => o.after.any fun e => Region.binds md e && e.on == i).getD false

/-- .. or there is no operation f. -/
def waitsO (md : Region.Mode) (ops : Array Oper) (f i : Nat) : Bool := waits md ops f i || decide (ops.size ≤ f)

theorem not_ready_of_waits {i : Nat} {listed : Array Bool} (hw : waitsO md ops f i = true) (hi : i ∈ Region.ready md ops listed) : f ∉ Region.ready md ops listed := by
  intro hf
  unfold waitsO at hw
  rw [Bool.or_eq_true] at hw
  rcases hw with hw | hw
  rotate_left
  · obtain ⟨_, o, ho, _⟩ := mem_ready.1 hf
    rw [Array.getElem?_eq_none (of_decide_eq_true hw)] at ho
    cases ho
  obtain ⟨hun, _, _, _⟩ := mem_ready.1 hi
  obtain ⟨_, o, ho, hall⟩ := mem_ready.1 hf
  unfold waits at hw
  rw [ho] at hw
  simp only [Option.map_some, Option.getD_some, Array.any_eq_true, Bool.and_eq_true, beq_iff_eq] at hw
  obtain ⟨k, hk, hb, he⟩ := hw
  have h1 := hall _ (Array.getElem_mem hk) hb
  rw [he] at h1
  rcases Nat.lt_or_ge i listed.size with h' | h'
  · simp [h'] at hun h1; rw [hun] at h1; cases h1
  · simp [Array.getElem?_eq_none h'] at h1

theorem wpAnyL_first {i : Nat} {oi : Oper} {v : Value} (hi : ops[i]? = some oi) (hw : waitsO md ops f i = true) (hsel : ∀ (j : Nat) (o : Oper) cs b, ops[j]? = some o → o.op ≠ .select cs b)
    (hQ : ∀ c a w, Q (.panic c) (a.put oi.dst v) w → Q (.panic c) a w) :
    ∀ (fuel : Nat) (listed : Array Bool) (a : Act) (w : World),
      (∀ j oj, ops[j]? = some oj → j ≠ i → listed.getD j true = false → (∀ e ∈ oj.after, Region.binds md e = true → e.on ≠ i) → oi.apart ops oj = true) →
      i ∈ Region.ready md ops listed → YieldsIf P ops S oi v a → S w →
      wpAnyL P md ops Q S f fuel (listed.setIfInBounds i true) (a.put oi.dst v) w → wpAnyL P md ops Q S f (fuel + 1) listed a w := by
  intro fuel
  induction fuel with
  | zero =>
    intro listed a w _ hr hy hS H
    refine ⟨fun h => (by rw [h] at hr; cases hr), fun j hj => ?_⟩
    by_cases hji : j = i
    · subst hji; exact hy.wpOp hi hS ⟨fun _ => hS, H⟩
    · have := ready_mono hj hji
      rw [H.1] at this
      cases this
  | succ fuel ih =>
    intro listed a w hfree hr hy hS H
    refine ⟨fun h => (by rw [h] at hr; cases hr), fun j hj => ?_⟩
    by_cases hji : j = i
    · subst hji; exact hy.wpOp hi hS ⟨fun _ => hS, H⟩
    · have hjf : j ≠ f := fun e => not_ready_of_waits hw hr (e ▸ hj)
      have h1 := H.2 j (ready_mono hj hji)
      obtain ⟨hjun, oj, hoj, hall⟩ := mem_ready.1 hj
      have hnot : ∀ e ∈ oj.after, Region.binds md e = true → e.on ≠ i := fun e he hb heq => by
        have h1 := hall e he hb
        have h0 := (mem_ready.1 hr).1
        rw [heq] at h1
        rcases Nat.lt_or_ge i listed.size with h' | h'
        · simp [h'] at h0 h1; rw [h0] at h1; cases h1
        · simp [Array.getElem?_eq_none h'] at h1
      have h2 := wpOp_putIf hoj (hfree j oj hoj hji hjun hnot) (fun cs b => hsel i oi cs b hi) (fun cs b => hsel j oj cs b hoj) hQ hy h1
      have hfree' : ∀ k ok, ops[k]? = some ok → k ≠ i → (listed.setIfInBounds j true).getD k true = false →
          (∀ e ∈ ok.after, Region.binds md e = true → e.on ≠ i) → oi.apart ops ok = true := fun k ok hk hki hun hno => by
        refine hfree k ok hk hki ?_ hno
        by_cases hjk : j = k
        · subst hjk; exact hjun
        · rw [getD_set_ne true hjk] at hun; exact hun
      refine wpOp_mono (fun a' w' h3 => ⟨h3.2.1, ih (listed.setIfInBounds j true) a' w' hfree' (ready_mono hr (Ne.symm hji)) h3.1 (h3.2.1 hjf) ?_⟩) h2
      rw [Array.setIfInBounds_comm _ _ hji]
      exact h3.2.2

/-- number i is taken first. -/
theorem wpAnyL_take {i : Nat} {oi : Oper} (d : Option Tmp) {v : Value} {fuel : Nat} {listed : Array Bool} {a : Act} {w : World} (hi : ops[i]? = some oi) (hd : oi.dst = d) (hw : waitsO md ops f i = true)
    (hs : Region.noSelect ops = true) (hf : Region.free md ops listed i = true) (hr : (Region.ready md ops listed).contains i = true)
    (hQ : ∀ c a w, Q (.panic c) (a.put oi.dst v) w → Q (.panic c) a w) (hg : Region.wanted oi (yielded ops a.tmps) = true) (hy : ∀ w, S w → (execOp a.eval oi).run P w = .ok (.value v) w) (hS : S w)
    (h : wpAnyL P md ops Q S f fuel (listed.setIfInBounds i true) (a.put d v) w) : wpAnyL P md ops Q S f (fuel + 1) listed a w :=
  wpAnyL_first hi hw (Region.noSelect_spec hs) hQ fuel listed a w (Region.free_spec hi hf) (by simpa using hr) (.inl ⟨hg, hy⟩) hS (hd ▸ h)

/-- number i, which its guard leaves out, is passed first. -/
theorem wpAnyL_pass {i : Nat} {oi : Oper} (d : Option Tmp) {fuel : Nat} {listed : Array Bool} {a : Act} {w : World} (hi : ops[i]? = some oi) (hd : oi.dst = d) (hw : waitsO md ops f i = true)
    (hs : Region.noSelect ops = true) (hf : Region.free md ops listed i = true) (hr : (Region.ready md ops listed).contains i = true)
    (hQ : ∀ c a w, Q (.panic c) (a.put oi.dst undef) w → Q (.panic c) a w) (hg : Region.wanted oi (yielded ops a.tmps) = false) (hS : S w)
    (h : wpAnyL P md ops Q S f fuel (listed.setIfInBounds i true) (a.put d undef) w) : wpAnyL P md ops Q S f (fuel + 1) listed a w :=
  wpAnyL_first hi hw (Region.noSelect_spec hs) hQ fuel listed a w (Region.free_spec hi hf) (by simpa using hr) (.inr ⟨hg, rfl⟩) hS (hd ▸ h)

/-- one alone may come up. -/
theorem wpAnyL_one {j : Nat} {o : Oper} {fuel : Nat} {listed : Array Bool} {a : Act} {w : World} (hr : Region.ready md ops listed = [j]) (ho : ops[j]? = some o) (hg : Region.wanted o (yielded ops a.tmps) = true)
    (h : ∀ K : Act → World → Prop, (∀ a' w', (j ≠ f → S w') → wpAnyL P md ops Q S f fuel (listed.setIfInBounds j true) a' w' → K a' w') → o.wp P a w K Q) : wpAnyL P md ops Q S f (fuel + 1) listed a w := by
  refine ⟨fun h0 => (by rw [hr] at h0; cases h0), fun i hi => ?_⟩
  rw [hr, List.mem_singleton] at hi
  subst hi
  unfold wpOp
  simp only [ho, hg, if_true]
  exact .inl (h _ fun a' w' h1 h2 => ⟨h1, h2⟩)

/-- two may come up. -/
theorem wpAnyL_two {i j : Nat} {oi oj : Oper} {fuel : Nat} {listed : Array Bool} {a : Act} {w : World} (hr : Region.ready md ops listed = [i, j]) (hi : ops[i]? = some oi) (hj : ops[j]? = some oj) (hgi : Region.wanted oi (yielded ops a.tmps) = true) (hgj : Region.wanted oj (yielded ops a.tmps) = true)
    (h1 : ∀ K : Act → World → Prop, (∀ a' w', (i ≠ f → S w') → wpAnyL P md ops Q S f fuel (listed.setIfInBounds i true) a' w' → K a' w') → oi.wp P a w K Q)
    (h2 : ∀ K : Act → World → Prop, (∀ a' w', (j ≠ f → S w') → wpAnyL P md ops Q S f fuel (listed.setIfInBounds j true) a' w' → K a' w') → oj.wp P a w K Q) : wpAnyL P md ops Q S f (fuel + 1) listed a w := by
  refine ⟨fun h0 => (by rw [hr] at h0; cases h0), fun k hk => ?_⟩
  rw [hr] at hk
  rcases List.mem_cons.1 hk with rfl | hk
  · unfold wpOp
    simp only [hi, hgi, if_true]
    exact .inl (h1 _ fun a' w' h1 h2 => ⟨h1, h2⟩)
  · rw [List.mem_singleton] at hk
    subst hk
    unfold wpOp
    simp only [hj, hgj, if_true]
    exact .inl (h2 _ fun a' w' h1 h2 => ⟨h1, h2⟩)

/-- all have come up. -/
theorem wpAnyL_done {listed : Array Bool} {a : Act} {w : World} (hr : Region.ready md ops listed = []) (h : Q .normal a w) : ∀ fuel, wpAnyL P md ops Q S f fuel listed a w
  | 0 => ⟨hr, h⟩
  | _ + 1 => ⟨fun _ => h, by rw [hr]; simp⟩

/-- the beginning. -/
theorem wp_region_L {id : Nat} {a : Act} {w : World} (S : World → Prop) (f : Nat) (hm : P.follows .mixedOrders = true)
    (h : wpAnyL P .any ops Q S f ops.size (Array.replicate ops.size false) a w.drew) : (Code.region id ops true).wp P Q a w :=
  wp_region_any hm (wpAny_of_L _ _ _ _ h)

/-- a value is told. -/
theorem oper_wp_val {o : Oper} {a : Act} {w w' : World} {K : Act → World → Prop} {v : Value} (h : (execOp a.eval o).run P w = .ok (.value v) w') (hk : K (a.put o.dst v) w') : Oper.wp P o a w K Q := by
  unfold Oper.wp
  rw [h]
  exact hk
theorem oper_wp_valD {o : Oper} (d : Option Tmp) {a : Act} {w w' : World} {K : Act → World → Prop} {v : Value} (hd : o.dst = d) (h : (execOp a.eval o).run P w = .ok (.value v) w') (hk : K (a.put d v) w') : Oper.wp P o a w K Q := by
  subst hd
  exact oper_wp_val h hk
theorem oper_wp_skip {o : Oper} {a : Act} {w w' : World} {K : Act → World → Prop} (h : (execOp a.eval o).run P w = .ok .skip w') (hk : K (a.put o.dst undef) w') : Oper.wp P o a w K Q := by
  unfold Oper.wp
  rw [h]
  exact hk
end
end Go.Proofs.Ytihleddhjmejoaa
namespace Go.Proofs.Ytihleddhjmejoaa
open Go.RowKit Go.Shelf

/-- What is told of a slice of bytes: so many cells hold these bytes. -/
def Bytes (w : World) (a : Option Addr) (l : List UInt8) : Prop :=
  l = [] ∨ ∃ b off, a = some ⟨b, off, none⟩ ∧ ∀ k, k < l.length → w.cell? ⟨b, off + k, none⟩ = some (.int .u8 ((l.getD k 0).toNat : Int))

theorem Bytes.later {w w' : World} {a : Option Addr} {l : List UInt8} (h : Bytes w a l) (hb : Below w.heap.size w w') : Bytes w' a l := by
  rcases h with h | ⟨b, off, ha, hc⟩
  · exact .inl h
  · refine .inr ⟨b, off, ha, fun k hk => ?_⟩
    have h1 := hc k hk
    rw [hb.cell (p := ⟨b, off + k, none⟩) (World.block_lt_of_cell? w _ h1)]
    exact h1

/-- the elements of a slice of bytes that came in. -/
theorem bytes_of (w : World) (x : Addr) (len cap : Nat) (zs : List Int) (hl : len ≤ cap) (hm : cap ≤ maxLen) (hz : len ≤ zs.length)
    (hcell : ∀ i, i < zs.length → w.cell? (x.add i) = some (.int .u8 (zs.getD i 0))) (hwz : ∀ n ∈ zs, (Lit.int .u8 n).wf = true) :
    ∃ l : List UInt8, len = l.length ∧ l.length ≤ maxLen ∧ Bytes w (some x) l := by
  have hlen : ((zs.take len).map fun n => UInt8.ofNat n.toNat).length = len := by simp; omega
  refine ⟨(zs.take len).map fun n => UInt8.ofNat n.toNat, hlen.symm, by rw [hlen]; omega, ?_⟩
  by_cases h0 : len = 0
  · left; subst h0; simp
  · right
    obtain ⟨b, off, spot⟩ := x
    have hc := hcell 0 (by omega)
    have hspot : spot = none := by simpa [Addr.add] using World.cell?_spot hc
    subst hspot
    refine ⟨b, off, rfl, fun k hk => ?_⟩
    rw [hlen] at hk
    have hk' : k < zs.length := by omega
    have h1 := hcell k hk'
    have h2 := hwz (zs[k]) (List.getElem_mem hk')
    have h3 : 0 ≤ zs[k] ∧ zs[k] < 256 := by
      simp [Lit.wf, IntKind.min, IntKind.max, IntKind.signed, IntKind.bits] at h2
      omega
    have e : zs.getD k 0 = zs[k] := by simp [List.getD, hk']
    have e2 : (((zs.take len).map fun n => UInt8.ofNat n.toNat).getD k 0).toNat = zs[k].toNat := by
      simp [List.getD, hk, hk']
      omega
    have e3 : ((((zs.take len).map fun n => UInt8.ofNat n.toNat).getD k 0).toNat : Int) = zs[k] := by rw [e2]; omega
    rw [e3, ← e, ← h1]
    by_cases hk0 : k = 0 <;> simp [Addr.add, hk0]

theorem byte_bd (b : UInt8) : 0 ≤ (b.toNat : Int) ∧ (b.toNat : Int) ≤ 255 := by
  have := UInt8.toNat_lt b
  omega
theorem idx_at (l : List UInt8) (k : Nat) (h : k < l.length) (W : World) : (Instr.index 9 (.string ⟨l.toArray⟩) (.int .i64 (k : Int))).run Try.prog W = .ok (.int .u8 ((l.getD k 0).toNat : Int)) W := by
  have hs : (⟨l.toArray⟩ : ByteArray).size = l.length := by simp [ByteArray.size]
  have e : l.getD k 0 = l[k] := by simp [List.getD, h]
  rw [run_index_string W 9 ⟨l.toArray⟩ .i64 (k : Int) Try.underlying9, dif_pos ⟨by omega, by rw [hs]; omega⟩, e]
  rfl

end Go.Proofs.Ytihleddhjmejoaa
namespace Go.Proofs.Ytihleddhjmejoaa
namespace Dig

/-- the decimal of a number. -/
def digs (u : Nat) : List UInt8 := if u < 10 then [UInt8.ofNat (48 + u)] else digs (u / 10) ++ [UInt8.ofNat (48 + u % 10)]
termination_by u
decreasing_by omega

/-- .. with a sign. -/
def dec (n : Int) : List UInt8 := if n < 0 then 45 :: digs (-n).toNat else digs n.toNat

theorem digs_small {u : Nat} (h : u < 10) : digs u = [UInt8.ofNat (48 + u)] := by
  rw [digs, if_pos h]

theorem digs_step {u : Nat} (h : ¬ u < 10) : digs u = digs (u / 10) ++ [UInt8.ofNat (48 + u % 10)] := by
  rw [digs, if_neg h]

theorem digs_len (k : Nat) : ∀ u, u < 10 ^ (k + 1) → (digs u).length ≤ k + 1 := by
  induction k with
  | zero =>
    intro u h
    rw [digs_small (by omega)]
    simp
  | succ k ih =>
    intro u h
    by_cases hu : u < 10
    · rw [digs_small hu]; simp
    · rw [digs_step hu, List.length_append]
      have h2 : u / 10 < 10 ^ (k + 1) := by
        rw [Nat.pow_succ] at h
        exact Nat.div_lt_of_lt_mul (by rw [Nat.mul_comm]; exact h)
      have := ih _ h2
      simp; omega

theorem digs_len20 {u : Nat} (h : u ≤ 9223372036854775808) : (digs u).length ≤ 19 := digs_len 18 u (by omega)

end Dig
end Go.Proofs.Ytihleddhjmejoaa
namespace Go.Proofs.Ytihleddhjmejoaa
open Go.RowKit

theorem conv1 (w : World) (x : Int) :
    (convert 48 9 (.slice (some ⟨w.heap.size, 0, none⟩) 1 1)).run Try.prog (w.alloc (.cells #[.int .u8 x] 5)) = .ok (.string ⟨#[UInt8.ofNat x.toNat]⟩) (w.alloc (.cells #[.int .u8 x] 5)) := by
  rw [run_convert_bytes_string _ _ _ _ _ _ _ Try.underlying48 Try.underlying5 Try.underlying9]
  have hl := run_loadCells_list (P := Try.prog) (w.alloc (.cells #[.int .u8 x] 5)) ⟨w.heap.size, 0, none⟩ ([x].map (Value.int .u8)) (fun j v hj => by
    match j, hj with
    | 0, hj =>
      simp at hj
      subst hj
      simp [Addr.add])
  simp only [List.length_map, List.length_cons, List.length_nil] at hl
  rw [run_bytesToString _ _ _ _ [x] hl]
  rfl

theorem str_cons (b : UInt8) (t : List UInt8) : (⟨#[b]⟩ : ByteArray) ++ ⟨t.toArray⟩ = ⟨(b :: t).toArray⟩ := by
  apply ByteArray.ext
  simp

set_option maxHeartbeats 1000000 in
theorem digits_pos (m0 : Nat) (w : World) (h : m0 ≤ 9223372036854775807) :
    Calls Try.prog 60 #[.int .i64 (m0 : Int)] w fun e w' => e = .returned (.string ⟨(Dig.digs m0).toArray⟩) ∧ Below w.heap.size w w' := by
  have kc := conv1
  go_enter Try.func60, Try.ntmps60
  go_wp2_with fail
  go_loopw [3, 4] (fun u s wr => ∃ (m : Nat) (t : List UInt8), m ≤ m0 ∧ u = .int .u64 (m : Int) ∧ s = .string ⟨t.toArray⟩ ∧ Hid (Dig.digs m ++ t = Dig.digs m0) ∧ Hid (Below w.heap.size w wr)) (fun u _ _ => (intOf u).toNat)
  case atStart => exact ⟨m0, [], Nat.le_refl _, rfl, rfl, Lib.hid (by simp), Lib.hid (Below.refl _ _)⟩
  case round =>
    obtain ⟨m, t, hm, rfl, rfl, HT, HB⟩ := hrel
    have htl : t.length ≤ 19 := by
      have := congrArg List.length HT.out
      have h2 := Dig.digs_len20 (u := m0) (by omega)
      rw [List.length_append] at this
      omega
    by_cases hge : 10 ≤ m
    · have hst : Dig.digs (m / 10) ++ (UInt8.ofNat (48 + m % 10) :: t) = Dig.digs m0 := by
        rw [← HT.out, Dig.digs_step (u := m) (by omega)]; simp
      have HT2 := Lib.hid hst
      clear hst
      go_wp2
      go_roundw
      case rel =>
        refine ⟨m / 10, UInt8.ofNat (48 + m % 10) :: t, by omega, by go_num, ?_, HT2, Lib.hid (HB.out.alloc HB.out.size _)⟩
        rw [show (48 : UInt8) + UInt8.ofNat (m % 10) = UInt8.ofNat (48 + m % 10) from by simp, str_cons]
      case measure => simp [intOf]; omega
    · have hst : UInt8.ofNat (48 + m) :: t = Dig.digs m0 := by
        rw [← HT.out, Dig.digs_small (u := m) (by omega)]; rfl
      have HT2 := Lib.hid hst
      clear hst
      go_wp2
      go_ret
      refine ⟨?_, HB.out.alloc HB.out.size _⟩
      rw [← HT2.out, ← str_cons, show UInt8.ofNat (48 + m) = (48 : UInt8) + UInt8.ofNat m from by simp]
      rfl

set_option maxHeartbeats 1000000 in
theorem digits_neg (n : Int) (w : World) (h : n < 0) (h2 : -9223372036854775808 ≤ n) :
    Calls Try.prog 60 #[.int .i64 n] w fun e w' => e = .returned (.string ⟨(Dig.dec n).toArray⟩) ∧ Below w.heap.size w w' := by
  have kc := conv1
  go_enter Try.func60, Try.ntmps60
  obtain ⟨m0, hm0⟩ : ∃ m0 : Nat, (-n).toNat = m0 := ⟨_, rfl⟩
  have hm1 : m0 ≤ 9223372036854775808 := by omega
  have hM : Hid (IntKind.u64.wrap (-IntKind.u64.wrap n) = (m0 : Int)) := Lib.hid (by
    rw [IntKind.wrap_u64, IntKind.wrap_u64]; omega)
  have hD : Hid (Dig.dec n = 45 :: Dig.digs m0) := Lib.hid (by unfold Dig.dec; rw [if_pos h, hm0])
  have hL : Hid (∀ m : Nat, m ≤ m0 → (Dig.digs m).length ≤ 19) := Lib.hid (fun m hm => Dig.digs_len20 (by omega))
  have hm2 : m0 ≤ 9300000000000000000 := by omega
  clear hm0 hm1
  go_wp2_with fail
  rw [hM.out]
  go_loopw [3, 4] (fun u s wr => ∃ (m : Nat) (t : List UInt8), m ≤ m0 ∧ u = .int .u64 (m : Int) ∧ s = .string ⟨t.toArray⟩ ∧ Hid (Dig.digs m ++ t = Dig.digs m0) ∧ Hid (Below w.heap.size w wr)) (fun u _ _ => (intOf u).toNat)
  case atStart => exact ⟨m0, [], Nat.le_refl _, rfl, rfl, Lib.hid (by simp), Lib.hid (Below.refl _ _)⟩
  case round =>
    obtain ⟨m, t, hm, rfl, rfl, HT, HB⟩ := hrel
    have htl : t.length ≤ 19 := by
      have := congrArg List.length HT.out
      have h2 := hL.out m0 (Nat.le_refl _)
      rw [List.length_append] at this
      omega
    by_cases hge : 10 ≤ m
    · have hst : Dig.digs (m / 10) ++ (UInt8.ofNat (48 + m % 10) :: t) = Dig.digs m0 := by
        rw [← HT.out, Dig.digs_step (u := m) (by omega)]; simp
      have HT2 := Lib.hid hst
      clear hst
      go_wp2
      go_roundw
      case rel =>
        refine ⟨m / 10, UInt8.ofNat (48 + m % 10) :: t, by omega, by go_num, ?_, HT2, Lib.hid (HB.out.alloc HB.out.size _)⟩
        rw [show (48 : UInt8) + UInt8.ofNat (m % 10) = UInt8.ofNat (48 + m % 10) from by simp, str_cons]
      case measure => simp [intOf]; omega
    · have hst : UInt8.ofNat (48 + m) :: t = Dig.digs m0 := by
        rw [← HT.out, Dig.digs_small (u := m) (by omega)]; rfl
      have HT2 := Lib.hid hst
      clear hst
      go_wp2
      go_ret
      refine ⟨?_, HB.out.alloc HB.out.size _⟩
      rw [hD.out, ← HT2.out, ← str_cons, ← str_cons, show UInt8.ofNat (48 + m) = (48 : UInt8) + UInt8.ofNat m from by simp]
      rfl

/-- the decimal of any int. -/
theorem digits_any (n : Int) (w : World) (h1 : -9223372036854775808 ≤ n) (h2 : n ≤ 9223372036854775807) :
    Calls Try.prog 60 #[.int .i64 n] w fun e w' => e = .returned (.string ⟨(Dig.dec n).toArray⟩) ∧ Below w.heap.size w w' := by
  by_cases h : n < 0
  · exact digits_neg n w h h1
  · obtain ⟨m, rfl⟩ := Int.eq_ofNat_of_zero_le (show 0 ≤ n by omega)
    have e : Dig.dec (m : Int) = Dig.digs m := by unfold Dig.dec; rw [if_neg h, Int.toNat_natCast]
    rw [e]
    exact digits_pos m w (by omega)
end Go.Proofs.Ytihleddhjmejoaa
