/- The reference's Mark at a list that there is not yet; its marks at claims. Plain mathematics of runs of slots: what 'joined' makes of parts that come one by one. No program in it. The contract of claims.pieces: the iterator gives pieces side by side from slot 0 to the last. A row of claims of the call's own; the contract of claims.added. The contracts of the reference's Of and more. -/
import Derived.Test.YtahmddopbmjepaaDoorRD27
import Derived.Test.YtahmddopbmjepaaDoorRD22
import Derived.Test.YtahmddopbmjepaaDoorRD28
import Derived.Laws.AppendOwnNone
import Derived.Test.YtahmddopbmjepaaDoorRD11
import Derived.Test.YtahmddopbmjepaaDoorRD05
import Derived.Shelf.Abstract
import Derived.WalkKit
import Derived.OwnWalkIn
import Derived.TacticsInMore
import Derived.LoopNIn
import Derived.LoopIn
import Derived.Lib.Hide
import Derived.Outline
import Derived.WalkSpells
import Derived.Deep.RegionHeld3
import Derived.Deep.AppendLies
import Derived.Laws.OwnMore
namespace Go.Proofs.YtahmddopbmjepaaDoor
open Go.RowKit

set_option maxRecDepth 100000 in
set_option maxHeartbeats 1000000 in
theorem refMark_nil (n : Int) (w : World) (h0 : 0 ≤ n) (h1 : n ≤ 16384) :
    Calls Tryd.prog 42 #[.slice none 0 0, .int .i64 n] w (Marked [] n w) := by
  obtain ⟨i0, hi, hz0, hz1, hz2⟩ := info_parts Tryd.infoInt
  go_enter Tryd.func42, Tryd.ntmps42
  go_wp2
  go_loop [5] (fun i => i = .int .i64 0) (fun _ => 0)
  case atStart => rfl
  case round =>
    subst hrel
    have hO : (w.alloc (.cells #[] 3)).ownsRow w.heap.size 3 1 (.slice (some ⟨w.heap.size, 0, none⟩) 0 0) 0 [] := World.ownsRow_made w #[] 0 (Nat.le_refl _) (by decide) rfl
    have hnew := one_newsI (w.alloc (.cells #[] 3)) n
    rw [World.size_alloc] at hnew
    have HO0 := Lib.hid hO
    have HNW := Lib.hid hnew
    clear hO hnew
    go_wp2_with (first
      | (at_builtin; refine wpList_append_own_none rfl (.tmp 43) (.tmp 46) 31 rfl w.heap.size 3 i0 1 Tryd.underlying31 hi _ 0 [] rfl HO0.out rfl ?_)
      | (at_builtin; refine wpList_append_own _ rfl (.tmp 48) (.tmp 50) 31 rfl w.heap.size 3 i0 (.int .i64 0) 1 8 Tryd.underlying31 hi hz0 hz1 hz2 rfl (by decide) _ 0 [] rfl (HO0.out.alloc _) ⟨w.heap.size + 1, 0, none⟩ 1 1 [Value.int .i64 n] rfl rfl HNW.out (by intro u hu; simp at hu; subst hu; rfl) (by unfold maxLen; omega) (by omega) (by simp; omega) ?_
         intro v2 w2 hown2 hgrow2 _
         have HB2 := Lib.hid (Below.grown (((Below.refl _ w).alloc (Nat.le_refl _) (.cells #[] 3)).alloc (by simp) (.cells #[.int .i64 n] 3)) hgrow2 (by simp; omega) (fun g hg => (HO0.out.lt g hg).1))
         have HO3 : Hid (w2.ownsRow w.heap.size 3 1 v2 1 [Value.int .i64 n]) := Lib.hid (by simpa using hown2)
         clear hown2 hgrow2)
      | (at_builtin; refine wpList_append_own_none rfl (.tmp 52) (.tmp 55) 31 rfl w.heap.size 3 i0 1 Tryd.underlying31 hi _ 1 [Value.int .i64 n] rfl HO3.out rfl ?_))
    obtain ⟨g, cap3, hv, _, hI⟩ := ints_owned (l := [n]) HO3.out rfl (by simp) (by simp; omega)
    have HI := Lib.hid hI
    clear hI
    subst hv
    go_wp2
    go_ret
    have hm : Sp.mark [] n = [n] := by unfold Sp.mark; rw [if_pos ⟨h0, h1⟩]; rfl
    exact ⟨_, _, by rw [hm]; rfl, by rw [hm]; exact HI.out, HB2.out⟩

/-- ints, of which nil is told. -/
def IntsN (w : World) (a : Option Addr) (cap : Nat) (l : List Int) : Prop := Ints w a cap l ∧ (l = [] → a = none ∧ cap = 0)

theorem IntsN.later {w w' : World} {a : Option Addr} {cap : Nat} {l : List Int} (h : IntsN w a cap l) (hb : Below w.heap.size w w') : IntsN w' a cap l := ⟨h.1.later hb, h.2⟩

theorem ints_nil (w : World) : IntsN w none 0 [] := ⟨⟨by simp, by simp, .inl rfl⟩, fun _ => ⟨rfl, rfl⟩⟩

theorem mark_ne2 {n : Int} {l : List Int} (h0 : 0 ≤ n) (h1 : n ≤ 16384) : Sp.mark l n ≠ [] := fun h => by
  have : n ∈ Sp.mark l n := Sp.mark_mem.2 (.inl ⟨rfl, h0, h1⟩)
  rw [h] at this
  simp at this

theorem refMark_all (a : Option Addr) (cap : Nat) (l : List Int) (n : Int) (w : World) (h0 : 0 ≤ n) (h1 : n ≤ 16384) (hl : l.length ≤ 1000000) (h : IntsN w a cap l) (hs : l.Pairwise (· < ·)) :
    Calls Tryd.prog 42 #[.slice a l.length cap, .int .i64 n] w fun e w' => ∃ a' cap', e = .returned (.slice a' (Sp.mark l n).length cap') ∧ IntsN w' a' cap' (Sp.mark l n) ∧ Below w.heap.size w w' := by
  by_cases hn : l = []
  · subst hn
    obtain ⟨rfl, rfl⟩ := h.2 rfl
    refine (refMark_nil n w h0 h1).mono ?_
    rintro e w' ⟨a', cap', he, hI, hb⟩
    exact ⟨a', cap', he, ⟨hI, fun h => absurd h (mark_ne2 h0 h1)⟩, hb⟩
  · refine (refMark_ints a cap l n w hl h.1 hs hn).mono ?_
    rintro e w' ⟨a', cap', he, hI, hb⟩
    exact ⟨a', cap', he, ⟨hI, fun h => absurd h (mark_ne2 h0 h1)⟩, hb⟩

set_option maxRecDepth 100000 in
set_option maxHeartbeats 2000000 in
theorem refMarksC_any (am a : Option Addr) (cm cap : Nat) (M : List Int) (l : List Ow.C) (w : World) (hv : Ow.VL l) (hM : IntsN w am cm M) (hs : M.Pairwise (· < ·)) (hl : M.length + 2 * l.length ≤ 900000) (hS : Cls w a cap l) :
    Calls Tryd.prog 41 #[.slice am M.length cm, .slice a l.length cap] w fun e w' => ∃ a' cap', e = .returned (.slice a' (Ow.marksC M l).length cap') ∧ IntsN w' a' cap' (Ow.marksC M l) ∧ Below w.heap.size w w' := by
  have HS := Lib.hid hS
  have HV := Lib.hid hv
  have HM := Lib.hid hM
  have HSo := Lib.hid hs
  clear hS hv hM hs
  go_enter Tryd.func41, Tryd.ntmps41
  go_wp2
  go_loopw [0, 5] (fun m i wr => ∃ (k : Nat) (a' : Option Addr) (c' : Nat), k ≤ l.length ∧ i = .int .i64 k ∧ m = .slice a' (Ow.marksC M (l.take k)).length c' ∧ Hid (IntsN wr a' c' (Ow.marksC M (l.take k))) ∧ Hid (Below w.heap.size w wr)) (fun _ i _ => l.length - (intOf i).toNat)
  case atStart => exact ⟨0, am, cm, Nat.zero_le _, rfl, rfl, HM, Lib.hid (Below.refl _ _)⟩
  case round =>
    obtain ⟨k, a', c', hk, rfl, rfl, HI, HB⟩ := hrel
    by_cases hlt : k < l.length
    · obtain ⟨b, off, rfl, hb, q1, q2, _, _⟩ := (HS.out.later HB.out).cells hlt
      have hok := HV.out.okAt2 hlt
      have hsn := Ow.marksC_snoc M hlt
      have hml := Ow.marksC_len (l.take k) M
      have htk : (l.take k).length = k := by rw [List.length_take]; omega
      have HSO := Lib.hid (Ow.marksC_sorted (l.take k) HSo.out)
      have HML : Hid ((Ow.marksC M (l.take k)).length ≤ 950000) := Lib.hid (by omega)
      generalize l.getD k Ow.z = c at q1 q2 hok hsn
      unfold Ow.okC at hok
      unfold Ow.stepC at hsn
      have HSN := Lib.hid hsn
      clear hsn hml htk
      generalize Ow.marksC M (l.take k) = m at *
      obtain ⟨f, t, n, e⟩ := c
      simp only at q1 q2 hok HSN
      have ew : IntKind.i64.wrap (t + 1) = t + 1 := IntWalk.i64_in _ (by omega)
      have k0 : (0 : Int) ≤ (k : Int) := by omega
      have k1 : (k : Int) < (l.length : Int) := by omega
      have HC1 := Lib.hid (refMark_all a' c' m f wr (by omega) (by omega) (by have := HML.out; omega) HI.out HSO.out)
      have HC2 := Lib.hid (fun w' a2 c2 h => refMark_all a2 c2 (Sp.mark m f) (t + 1) w' (by omega) (by omega) (by have := HML.out; have := Sp.mark_len m f; omega) h (Sp.mark_sorted HSO.out))
      go_wp2_with fail
      refine HC1.out.mono ?_
      rintro en w1 ⟨a1, c1, rfl, hI, hb1⟩
      have q2' := (hb1.cell (p := ⟨b, off + k * 4 + 1, none⟩) hb).trans q2
      have HI1 := Lib.hid hI
      have HB1 := Lib.hid (HB.out.trans (hb1.mono HB.out.size))
      clear hI hb1 q1 q2
      go_wp2_with fail
      refine (HC2.out _ _ _ HI1.out).mono ?_
      rintro en w2 ⟨a2, c2, rfl, hI, hb2⟩
      have HI2 := Lib.hid hI
      have HB2 := Lib.hid (HB1.out.trans (hb2.mono HB1.out.size))
      clear hI hb2 q2'
      go_wp2
      go_roundw
      case rel => exact ⟨k + 1, a2, c2, by omega, by go_num, by rw [HSN.out], by rw [HSN.out]; exact HI2, HB2⟩
      case measure => simp [intOf]; omega
    · have hall : l.take k = l := List.take_of_length_le (by omega)
      rw [hall] at HI ⊢
      go_wp2
      go_ret
      exact ⟨a', c', rfl, HI.out, HB.out⟩
end Go.Proofs.YtahmddopbmjepaaDoor
namespace Go.Proofs.YtahmddopbmjepaaDoor
namespace Sp

/-- a span that denotes slots, each of them a slot. -/
abbrev V := { s : S // 0 ≤ s.1 ∧ s.1 ≤ s.2 ∧ s.2 < 16384 }

def jn (r p : V) : V := ⟨(r.1.1, max r.1.2 p.1.2), by have := r.2; have := p.2; simp only; omega⟩

/-- one part more: what has been handed out, the run that is still open. -/
def jstep (s : List V × Option V) (p : V) : List V × Option V :=
  match s.2 with
  | none => (s.1, some p)
  | some r => if p.1.1 ≤ r.1.2 + 1 then (s.1, some (jn r p)) else (s.1 ++ [r], some p)

def jst (l : List V) : List V × Option V := l.foldl jstep ([], none)
def joinL (l : List V) : List V := (jst l).1 ++ (jst l).2.toList

theorem jst_nil : jst [] = ([], none) := rfl
theorem jst_snoc (l : List V) (p : V) : jst (l ++ [p]) = jstep (jst l) p := by simp [jst]

theorem snoc_ind {α : Type} {P : List α → Prop} (h0 : P []) (hs : ∀ l p, P l → P (l ++ [p])) : ∀ l, P l := fun l => by
  have h : ∀ r : List α, P r.reverse := by
    intro r
    induction r with
    | nil => exact h0
    | cons a r ih => rw [List.reverse_cons]; exact hs _ _ ih
  simpa using h l.reverse

theorem jst_len (l : List V) : (jst l).1.length + (if (jst l).2.isSome then 1 else 0) ≤ l.length := by
  induction l using snoc_ind with
  | h0 => simp [jst_nil]
  | hs l p ih =>
    rw [jst_snoc]
    unfold jstep
    split
    · rename_i h
      simp [h] at ih ⊢
      omega
    · rename_i r h
      simp [h] at ih
      split <;> simp <;> omega

theorem joinL_none {l : List V} (h : (jst l).2 = none) : joinL l = (jst l).1 := by simp [joinL, h]
theorem joinL_some {l : List V} {r : V} (h : (jst l).2 = some r) : joinL l = (jst l).1 ++ [r] := by simp [joinL, h]

/-- the part of a span that denotes slots. -/
def clip (s : S) : Option V := if h : max s.1 0 ≤ min s.2 16383 then some ⟨(max s.1 0, min s.2 16383), by simp only; omega⟩ else none
def clipL (l : List S) : List S := (l.filterMap clip).map (·.1)

theorem clip_yes {s : S} (h : max s.1 0 ≤ min s.2 16383) : clip s = some ⟨(max s.1 0, min s.2 16383), by simp only; omega⟩ := dif_pos h
theorem clip_no {s : S} (h : ¬ max s.1 0 ≤ min s.2 16383) : clip s = none := dif_neg h

theorem clipL_take {l : List S} {k : Nat} (hk : k < l.length) : clipL (l.take (k + 1)) = clipL (l.take k) ++ ((clip (l.getD k (0, 0))).map (·.1)).toList := by
  unfold clipL
  rw [List.take_succ_eq_append_getElem hk, List.filterMap_append, List.map_append]
  have e : l.getD k (0, 0) = l[k] := by simp [List.getD, hk]
  rw [e]
  congr 1
  cases h : clip l[k] <;> simp [h]

theorem clipL_len (l : List S) : (clipL l).length ≤ l.length := by
  unfold clipL
  rw [List.length_map]
  exact List.length_filterMap_le _ _

end Sp
end Go.Proofs.YtahmddopbmjepaaDoor
namespace Go.Proofs.YtahmddopbmjepaaDoor
open Go.RowKit Go.Shelf
attribute [local go_sem] Oper.semAt_some

/-- a piece as yield takes it. -/
def encO (x : Ow.PV) : Array Value := #[.agg #[.int .i64 x.1.1.1, .int .i64 x.1.1.2], .agg #[.int .i64 (Ow.zo x.2.1.1).1, .int .i64 (Ow.zo x.2.1.1).2, .int .i64 (Ow.zo x.2.1.2).1, .int .i64 (Ow.zo x.2.1.2).2]]

theorem Cls.keeps {S : Nat → Prop} {w w' : World} {a : Option Addr} {cap : Nat} {l : List Ow.C} (h : Cls w a cap l) (hs : l ≠ [] → ∀ x, a = some x → S x.block) (hk : Keeps S w w') : Cls w' a cap l := by
  obtain ⟨h0, h1, h2, h3⟩ := h
  refine ⟨h0, h1, h2, ?_⟩
  rcases h3 with h3 | ⟨b, off, rfl, hlt, hc⟩
  · exact .inl h3
  · by_cases hl : l = []
    · exact .inl hl
    have hb : S b := hs hl _ rfl
    exact .inr ⟨b, off, rfl, Nat.lt_of_lt_of_le hlt hk.size, fun k h => by
      obtain ⟨c1, c2, c3, c4⟩ := hc k h
      exact ⟨(hk.cell (p := ⟨b, off + k * 4, none⟩) hlt hb).trans c1, (hk.cell (p := ⟨b, off + k * 4 + 1, none⟩) hlt hb).trans c2, (hk.cell (p := ⟨b, off + k * 4 + 2, none⟩) hlt hb).trans c3, (hk.cell (p := ⟨b, off + k * 4 + 3, none⟩) hlt hb).trans c4⟩⟩

-- left out: pieces_any
-- left out: pieces_seq
end Go.Proofs.YtahmddopbmjepaaDoor
namespace Go.Proofs.YtahmddopbmjepaaDoor
open Go.RowKit Go.Shelf

def flat4 (l : List Ow.C) : List Value := l.flatMap fun c => [.int .i64 c.f, .int .i64 c.t, .int .i64 c.n, .int .i64 c.e]

theorem flat4_length (l : List Ow.C) : (flat4 l).length = l.length * 4 := by
  induction l with
  | nil => rfl
  | cons c l ih => unfold flat4 at ih ⊢; rw [List.flatMap_cons, List.length_append, ih]; simp; omega

theorem flat4_get : ∀ (l : List Ow.C) (k : Nat), k < l.length → (flat4 l)[k * 4]? = some (.int .i64 (l.getD k Ow.z).f) ∧ (flat4 l)[k * 4 + 1]? = some (.int .i64 (l.getD k Ow.z).t) ∧ (flat4 l)[k * 4 + 2]? = some (.int .i64 (l.getD k Ow.z).n) ∧ (flat4 l)[k * 4 + 3]? = some (.int .i64 (l.getD k Ow.z).e)
  | [], k, h => by simp at h
  | c :: l, 0, _ => ⟨rfl, rfl, rfl, rfl⟩
  | c :: l, k + 1, h => by
    have := flat4_get l k (by simpa using h)
    have e : flat4 (c :: l) = .int .i64 c.f :: .int .i64 c.t :: .int .i64 c.n :: .int .i64 c.e :: flat4 l := rfl
    rw [e, show (k + 1) * 4 = k * 4 + 1 + 1 + 1 + 1 by omega]
    simpa using this

theorem flat4_snoc (l : List Ow.C) (c : Ow.C) : flat4 (l ++ [c]) = flat4 l ++ [.int .i64 c.f, .int .i64 c.t, .int .i64 c.n, .int .i64 c.e] := by simp [flat4]

theorem flat4_set (l : List Ow.C) (b c : Ow.C) : (flat4 (l ++ [b])).set (l.length * 4 + 1) (.int .i64 c.t) = flat4 (l ++ [{ b with t := c.t }]) := by
  rw [flat4_snoc, flat4_snoc, ← flat4_length, List.set_append, if_neg (by omega)]
  simp

/-- the cells of a row of claims of the call's own. -/
theorem owns4 {w : World} {B : Nat} {v : Value} {l : List Ow.C} (h : w.ownsRow B 64 4 v l.length (flat4 l)) (hl : 0 < l.length) :
    ∃ g cap, v = .slice (some ⟨g, 0, none⟩) l.length cap ∧ B ≤ g ∧ g < w.heap.size ∧ l.length ≤ cap ∧ cap ≤ 9223372036854775807 ∧ (∀ k, k < l.length → C4 w g (k * 4) (l.getD k Ow.z)) ∧ ∀ o, w.frozen? ⟨g, o, none⟩ = false := by
  rcases h.2 with ⟨_, h0⟩ | ⟨g, cap, cur, rfl, hb, hg, hn, hcap, hsz, htake⟩
  · omega
  · refine ⟨g, cap, rfl, hb, (Array.getElem?_eq_some_iff.1 hg).1, hn, hcap, fun k hk => ?_, fun o => by simp [World.frozen?, hg]⟩
    obtain ⟨h1, h2, h3, h4⟩ := flat4_get l k hk
    rw [← htake, List.getElem?_take] at h1 h2 h3 h4
    rw [if_pos (by omega)] at h1 h2 h3 h4
    unfold C4
    rw [cell_of_row w g _ cur _ (0, 0) hg, cell_of_row w g _ cur _ (0, 0) hg, cell_of_row w g _ cur _ (0, 0) hg, cell_of_row w g _ cur _ (0, 0) hg]
    exact ⟨by simpa using h1, by simpa using h2, by simpa using h3, by simpa using h4⟩

theorem cls_of_row {w : World} {B : Nat} {v : Value} {l : List Ow.C} (h : w.ownsRow B 64 4 v l.length (flat4 l)) (hf : ∀ c ∈ l, Ow.FitC c) :
    ∃ a cap, v = .slice a l.length cap ∧ Cls w a cap l ∧ (∀ x, a = some x → B ≤ x.block ∧ x.block < w.heap.size) := by
  by_cases hl : 0 < l.length
  · obtain ⟨g, cap, rfl, h1, h2, h3, h4, h5, _⟩ := owns4 h hl
    refine ⟨_, cap, rfl, ⟨h3, h4, hf, .inr ⟨g, 0, rfl, h2, fun k hk => by rw [Nat.zero_add]; exact h5 k hk⟩⟩, fun x hx => by cases hx; exact ⟨h1, h2⟩⟩
  · have hz : l = [] := List.eq_nil_of_length_eq_zero (by omega)
    subst hz
    rcases h.2 with ⟨rfl, _⟩ | ⟨g, cap, cur, rfl, hb, hg, hn, hcap, _⟩
    · exact ⟨none, 0, rfl, cls_nil w, by simp⟩
    · exact ⟨_, cap, rfl, ⟨by simp, hcap, by simp, .inl rfl⟩, fun x hx => by cases hx; exact ⟨hb, (Array.getElem?_eq_some_iff.1 hg).1⟩⟩

theorem infoClaim : (Tryd.prog.info? 64).map (fun i => (i.zero, i.size, i.bytes)) = some (some (.agg #[.int .i64 0, .int .i64 0, .int .i64 0, .int .i64 0]), 4, 32) := by kernel_rfl

/-- what a call leaves that puts a claim behind a row of claims of its caller's own. -/
def MoreOut (w : World) (B : Nat) (v : Value) (l : List Ow.C) (c : Ow.C) (e : Ending) (w' : World) : Prop :=
  ∃ v', e = .returned v' ∧ w'.ownsRow B 64 4 v' (Ow.more l c).length (flat4 (Ow.more l c)) ∧ Keeps (fun k => some k ≠ v.ownBlock) w w' ∧ (v'.ownBlock = v.ownBlock ∨ ∃ g, v'.ownBlock = some g ∧ w.heap.size ≤ g)

theorem quad_news (w : World) (B : Nat) (hB : w.heap.size = B) (x y z u : Value) (t : TypeId) : ∀ j q, [x, y, z, u][j]? = some q → (w.alloc (.cells #[x, y, z, u] t)).cell? ((⟨B, 0, none⟩ : Addr).add j) = some q := by
  subst hB
  intro j q hq
  have hb := World.alloc_heap_new w (.cells #[x, y, z, u] t)
  have hadd : (⟨w.heap.size, 0, none⟩ : Addr).add j = ⟨w.heap.size, j, none⟩ := by unfold Addr.add; split <;> simp_all
  rw [hadd, cell_of_row _ _ j _ _ _ hb]
  simpa using hq

theorem more_app {w wa w1 : World} {B : Nat} {v v' : Value} {l : List Ow.C} {c : Ow.C} (hm : Ow.more l c = l ++ [c]) (hk : Keeps (fun k => some k ≠ v.ownBlock) w wa)
    (h1 : w1.ownsRow B 64 4 v' (l.length + 1) (flat4 l ++ [.int .i64 c.f, .int .i64 c.t, .int .i64 c.n, .int .i64 c.e])) (hg : wa.grownBy w1 v.ownBlock) (ha : v'.ownBlock = v.ownBlock ∨ v'.ownBlock = some wa.heap.size) : MoreOut w B v l c (.returned v') w1 := by
  refine ⟨v', rfl, ?_, hk.trans ((Keeps.of_grown hg fun r e => by rw [e]; simp)), ha.imp id (fun h => ⟨_, h, hk.size⟩)⟩
  rw [hm, flat4_snoc, List.length_append]
  exact h1

theorem more_store {w wa : World} {B g cap : Nat} {l : List Ow.C} {b c : Ow.C} (ht : Ow.touch b c = true) (hown : w.ownsRow B 64 4 (.slice (some ⟨g, 0, none⟩) (l ++ [b]).length cap) (l ++ [b]).length (flat4 (l ++ [b]))) (hb : Below w.heap.size w wa) :
    MoreOut w B (.slice (some ⟨g, 0, none⟩) (l ++ [b]).length cap) (l ++ [b]) c (.returned (.slice (some ⟨g, 0, none⟩) (l ++ [b]).length cap)) (wa.setCell ⟨g, l.length * 4 + 1, none⟩ (.int .i64 c.t)) := by
  have hk : Keeps (fun k => some k ≠ (Value.slice (some ⟨g, 0, none⟩) (l ++ [b]).length cap).ownBlock) w wa := Keeps.of_below hb fun k h _ => h
  have how : wa.ownsRow B 64 4 (.slice (some ⟨g, 0, none⟩) (l ++ [b]).length cap) (l ++ [b]).length (flat4 (l ++ [b])) := by
    refine ⟨hown.1, ?_⟩
    rcases hown.2 with h | ⟨g', cap', cur, h1, h2, h3, h4⟩
    · exact .inl h
    · exact .inr ⟨g', cap', cur, h1, h2, (hb.block g' (Array.getElem?_eq_some_iff.1 h3).1).trans h3, h4⟩
  have h1 := (how.stored (l.length * 4 + 1) (.int .i64 c.t)).1
  refine ⟨_, rfl, ?_, hk.setCell (.inr (by simp [Value.ownBlock])) _, .inl rfl⟩
  rw [Ow.more_snoc, if_pos ht, ← flat4_set]
  simp only [List.length_append, List.length_cons, List.length_nil] at h1 ⊢
  exact h1

theorem owns_below {w w' : World} {B : Nat} {e : TypeId} {s : Nat} {v : Value} {n : Nat} {xs : List Value} (h : w.ownsRow B e s v n xs) (hb : Below w.heap.size w w') : w'.ownsRow B e s v n xs := by
  refine ⟨h.1, ?_⟩
  rcases h.2 with h | ⟨g', cap', cur, h1, h2, h3, h4⟩
  · exact .inl h
  · exact .inr ⟨g', cap', cur, h1, h2, (hb.block g' (Array.getElem?_eq_some_iff.1 h3).1).trans h3, h4⟩

-- left out: added_nil
-- left out: added_touch
-- left out: added_apart
-- left out: added_any
end Go.Proofs.YtahmddopbmjepaaDoor
namespace Go.Proofs.YtahmddopbmjepaaDoor
open Go.RowKit

namespace Ow
theorem own_at : ∀ {l : List C} {k : Nat} {s : Int}, (∀ j, j < k → inC s (l.getD j z) = false) → k < l.length → inC s (l.getD k z) = true → own l s = some ((l.getD k z).n, (l.getD k z).e)
  | [], _, _, _, h, _ => by simp at h
  | c :: r, 0, s, _, _, h => by
    simp only [List.getD_cons_zero] at h ⊢
    simp [own, h]
  | c :: r, k + 1, s, hj, hk, h => by
    have h0 := hj 0 (by omega)
    simp only [List.getD_cons_zero] at h0
    have h1 := own_at (l := r) (k := k) (s := s) (fun j hjk => by have := hj (j + 1) (by omega); simpa using this) (by simpa using hk) (by simpa using h)
    simp only [List.getD_cons_succ]
    rw [← h1]
    simp [own, h0]

theorem own_nowhere {l : List C} {s : Int} (h : ∀ j, j < l.length → inC s (l.getD j z) = false) : own l s = none := by
  refine own_none fun c hc => ?_
  obtain ⟨i, hi, rfl⟩ := List.mem_iff_getElem.1 hc
  have := h i hi
  simpa [List.getD, hi] using this

/-- an owner as the reference has it. -/
def ro : Option O → O
  | none => (-1, 0)
  | some o => o
end Ow

set_option maxRecDepth 100000 in
set_option maxHeartbeats 2000000 in
theorem refOf_any (a : Option Addr) (cap : Nat) (l : List Ow.C) (s : Int) (w : World) (hS : Cls w a cap l) :
    Calls Tryd.prog 31 #[.slice a l.length cap, .int .i64 s] w fun e w' => e = .returned (.tuple #[.int .i64 (Ow.ro (Ow.own l s)).1, .int .i64 (Ow.ro (Ow.own l s)).2]) ∧ Below w.heap.size w w' := by
  have HS := Lib.hid hS
  have hc1 := hS.1
  have hc2 := hS.2.1
  clear hS
  obtain ⟨x, y, hxy⟩ : ∃ x y, Ow.ro (Ow.own l s) = (x, y) := ⟨_, _, rfl⟩
  rw [hxy]
  have HX := Lib.hid hxy
  clear hxy
  go_enter Tryd.func31, Tryd.ntmps31
  go_wp2
  go_loopw [6] (fun i wr => ∃ k : Nat, k ≤ l.length ∧ i = .int .i64 k ∧ Hid (∀ j, j < k → Ow.inC s (l.getD j Ow.z) = false) ∧ Hid (Below w.heap.size w wr)) (fun i _ => l.length - (intOf i).toNat)
  case atStart => exact ⟨0, Nat.zero_le _, rfl, Lib.hid fun j h => by omega, Lib.hid (Below.refl _ _)⟩
  case round =>
    obtain ⟨k, hk, rfl, HE, HB⟩ := hrel
    by_cases hlt : k < l.length
    · obtain ⟨b, off, rfl, hb, c1, c2, c3, c4⟩ := (HS.out.later HB.out).cells hlt
      have k0 : (0 : Int) ≤ (k : Int) := by omega
      have k1 : (k : Int) < (l.length : Int) := by omega
      obtain ⟨⟨f, t, n, e⟩, hy⟩ : ∃ x, l.getD k Ow.z = x := ⟨_, rfl⟩
      rw [hy] at c1 c2 c3 c4
      have HY := Lib.hid hy
      simp only at c1 c2 c3 c4
      clear hy
      by_cases h1 : f ≤ s
      · by_cases h2 : s ≤ t
        · have HO : Hid (n = x ∧ e = y) := Lib.hid (by
            have h3 := Ow.own_at HE.out hlt (by rw [HY.out]; exact Ow.inC_iff.2 ⟨h1, h2⟩)
            have h4 := HX.out
            rw [h3, HY.out] at h4
            simpa [Ow.ro] using h4)
          obtain ⟨rfl, rfl⟩ := HO.out
          go_upto_region 5 with (fail)
          go_quiet (fail)
          go_wp2
          go_ret2
          exact ⟨rfl, below_drewN HB.out _⟩
        · have HN := Lib.hid (show Ow.inC s ⟨f, t, n, e⟩ = false from Ow.inC_not.2 (.inr (by simp only; omega)))
          have h2' : t < s := by omega
          go_wp2
          go_roundw
          case rel =>
            refine ⟨k + 1, by omega, by go_num, Lib.hid fun j hj => ?_, HB⟩
            rcases Nat.lt_or_ge j k with h | h
            · exact HE.out j h
            · obtain rfl : j = k := by omega
              rw [HY.out]; exact HN.out
          case measure => simp [intOf]; omega
      · have HN := Lib.hid (show Ow.inC s ⟨f, t, n, e⟩ = false from Ow.inC_not.2 (.inl (by simp only; omega)))
        have h1' : s < f := by omega
        go_wp2
        go_roundw
        case rel =>
          refine ⟨k + 1, by omega, by go_num, Lib.hid fun j hj => ?_, HB⟩
          rcases Nat.lt_or_ge j k with h | h
          · exact HE.out j h
          · obtain rfl : j = k := by omega
            rw [HY.out]; exact HN.out
        case measure => simp [intOf]; omega
    · have HO : Hid (x = -1 ∧ y = 0) := Lib.hid (by
        have h3 := Ow.own_nowhere (l := l) (s := s) fun j hj => HE.out j (by omega)
        have h4 := HX.out
        rw [h3] at h4
        simp only [Ow.ro, Prod.mk.injEq] at h4
        exact ⟨h4.1.symm, h4.2.symm⟩)
      obtain ⟨rfl, rfl⟩ := HO.out
      go_wp2
      go_ret2
      exact ⟨rfl, HB.out⟩
end Go.Proofs.YtahmddopbmjepaaDoor
