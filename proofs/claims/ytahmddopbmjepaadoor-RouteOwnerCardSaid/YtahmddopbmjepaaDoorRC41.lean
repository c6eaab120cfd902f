/- A row of claims of the call's own; the contract of claims.added. The contracts of the reference's Of and more. -/
import Derived.Test.YtahmddopbmjepaaDoorRC40
import Derived.Deep.AppendLies
import Derived.Laws.OwnMore
namespace Go.Proofs.YtahmddopbmjepaaDoor
open Go.RowKit Go.Shelf

def flat4 (l : List Ow.C) : List Value := l.flatMap fun c => [.int .i64 c.f, .int .i64 c.t, .int .i64 c.n, .int .i64 c.e]

theorem flat4_length (l : List Ow.C) : (flat4 l).length = l.length * 4 := by
  induction l with
  | nil => rfl
  | cons c l ih => unfold flat4 at ih ⊢; rw [List.flatMap_cons, List.length_append, ih]; simp; omega

theorem flat4_get : ∀ (l : List Ow.C) (k : Nat), k < l.length → (flat4 l)[k * 4]? = some (.int .i64 (l.getD k Ow.z).f) ∧ (flat4 l)[k * 4 + 1]? = some (.int .i64 (l.getD k Ow.z).t) ∧ (flat4 l)[k * 4 + 2]? = some (.int .i64 (l.getD k Ow.z).n) ∧ (flat4 l)[k * 4 + 3]? = some (.int .i64 (l.getD k Ow.z).e)
  | [], k, h => by simp at h
  | c :: l, 0, _ => ⟨rfl, rfl, rfl, rfl⟩
  | c :: l, k + 1, h => by
    have := flat4_get l k (by simpa using h)
    have e : flat4 (c :: l) = .int .i64 c.f :: .int .i64 c.t :: .int .i64 c.n :: .int .i64 c.e :: flat4 l := rfl
    rw [e, show (k + 1) * 4 = k * 4 + 1 + 1 + 1 + 1 by omega]
    simpa using this

theorem flat4_snoc (l : List Ow.C) (c : Ow.C) : flat4 (l ++ [c]) = flat4 l ++ [.int .i64 c.f, .int .i64 c.t, .int .i64 c.n, .int .i64 c.e] := by simp [flat4]

theorem flat4_set (l : List Ow.C) (b c : Ow.C) : (flat4 (l ++ [b])).set (l.length * 4 + 1) (.int .i64 c.t) = flat4 (l ++ [{ b with t := c.t }]) := by
  rw [flat4_snoc, flat4_snoc, ← flat4_length, List.set_append, if_neg (by omega)]
  simp

/-- the cells of a row of claims of the call's own. -/
theorem owns4 {w : World} {B : Nat} {v : Value} {l : List Ow.C} (h : w.ownsRow B 64 4 v l.length (flat4 l)) (hl : 0 < l.length) :
    ∃ g cap, v = .slice (some ⟨g, 0, none⟩) l.length cap ∧ B ≤ g ∧ g < w.heap.size ∧ l.length ≤ cap ∧ cap ≤ 9223372036854775807 ∧ (∀ k, k < l.length → C4 w g (k * 4) (l.getD k Ow.z)) ∧ ∀ o, w.frozen? ⟨g, o, none⟩ = false := by
  rcases h.2 with ⟨_, h0⟩ | ⟨g, cap, cur, rfl, hb, hg, hn, hcap, hsz, htake⟩
  · omega
  · refine ⟨g, cap, rfl, hb, (Array.getElem?_eq_some_iff.1 hg).1, hn, hcap, fun k hk => ?_, fun o => by simp [World.frozen?, hg]⟩
    obtain ⟨h1, h2, h3, h4⟩ := flat4_get l k hk
    rw [← htake, List.getElem?_take] at h1 h2 h3 h4
    rw [if_pos (by omega)] at h1 h2 h3 h4
    unfold C4
    rw [cell_of_row w g _ cur _ (0, 0) hg, cell_of_row w g _ cur _ (0, 0) hg, cell_of_row w g _ cur _ (0, 0) hg, cell_of_row w g _ cur _ (0, 0) hg]
    exact ⟨by simpa using h1, by simpa using h2, by simpa using h3, by simpa using h4⟩

theorem cls_of_row {w : World} {B : Nat} {v : Value} {l : List Ow.C} (h : w.ownsRow B 64 4 v l.length (flat4 l)) (hf : ∀ c ∈ l, Ow.FitC c) :
    ∃ a cap, v = .slice a l.length cap ∧ Cls w a cap l ∧ (∀ x, a = some x → B ≤ x.block ∧ x.block < w.heap.size) := by
  by_cases hl : 0 < l.length
  · obtain ⟨g, cap, rfl, h1, h2, h3, h4, h5, _⟩ := owns4 h hl
    refine ⟨_, cap, rfl, ⟨h3, h4, hf, .inr ⟨g, 0, rfl, h2, fun k hk => by rw [Nat.zero_add]; exact h5 k hk⟩⟩, fun x hx => by cases hx; exact ⟨h1, h2⟩⟩
  · have hz : l = [] := List.eq_nil_of_length_eq_zero (by omega)
    subst hz
    rcases h.2 with ⟨rfl, _⟩ | ⟨g, cap, cur, rfl, hb, hg, hn, hcap, _⟩
    · exact ⟨none, 0, rfl, cls_nil w, by simp⟩
    · exact ⟨_, cap, rfl, ⟨by simp, hcap, by simp, .inl rfl⟩, fun x hx => by cases hx; exact ⟨hb, (Array.getElem?_eq_some_iff.1 hg).1⟩⟩

theorem infoClaim : (Tryd.prog.info? 64).map (fun i => (i.zero, i.size, i.bytes)) = some (some (.agg #[.int .i64 0, .int .i64 0, .int .i64 0, .int .i64 0]), 4, 32) := by kernel_rfl

/-- what a call leaves that puts a claim behind a row of claims of its caller's own. -/
def MoreOut (w : World) (B : Nat) (v : Value) (l : List Ow.C) (c : Ow.C) (e : Ending) (w' : World) : Prop :=
  ∃ v', e = .returned v' ∧ w'.ownsRow B 64 4 v' (Ow.more l c).length (flat4 (Ow.more l c)) ∧ Keeps (fun k => some k ≠ v.ownBlock) w w' ∧ (v'.ownBlock = v.ownBlock ∨ ∃ g, v'.ownBlock = some g ∧ w.heap.size ≤ g)

theorem quad_news (w : World) (B : Nat) (hB : w.heap.size = B) (x y z u : Value) (t : TypeId) : ∀ j q, [x, y, z, u][j]? = some q → (w.alloc (.cells #[x, y, z, u] t)).cell? ((⟨B, 0, none⟩ : Addr).add j) = some q := by
  subst hB
  intro j q hq
  have hb := World.alloc_heap_new w (.cells #[x, y, z, u] t)
  have hadd : (⟨w.heap.size, 0, none⟩ : Addr).add j = ⟨w.heap.size, j, none⟩ := by unfold Addr.add; split <;> simp_all
  rw [hadd, cell_of_row _ _ j _ _ _ hb]
  simpa using hq

theorem more_app {w wa w1 : World} {B : Nat} {v v' : Value} {l : List Ow.C} {c : Ow.C} (hm : Ow.more l c = l ++ [c]) (hk : Keeps (fun k => some k ≠ v.ownBlock) w wa)
    (h1 : w1.ownsRow B 64 4 v' (l.length + 1) (flat4 l ++ [.int .i64 c.f, .int .i64 c.t, .int .i64 c.n, .int .i64 c.e])) (hg : wa.grownBy w1 v.ownBlock) (ha : v'.ownBlock = v.ownBlock ∨ v'.ownBlock = some wa.heap.size) : MoreOut w B v l c (.returned v') w1 := by
  refine ⟨v', rfl, ?_, hk.trans ((Keeps.of_grown hg fun r e => by rw [e]; simp)), ha.imp id (fun h => ⟨_, h, hk.size⟩)⟩
  rw [hm, flat4_snoc, List.length_append]
  exact h1

theorem more_store {w wa : World} {B g cap : Nat} {l : List Ow.C} {b c : Ow.C} (ht : Ow.touch b c = true) (hown : w.ownsRow B 64 4 (.slice (some ⟨g, 0, none⟩) (l ++ [b]).length cap) (l ++ [b]).length (flat4 (l ++ [b]))) (hb : Below w.heap.size w wa) :
    MoreOut w B (.slice (some ⟨g, 0, none⟩) (l ++ [b]).length cap) (l ++ [b]) c (.returned (.slice (some ⟨g, 0, none⟩) (l ++ [b]).length cap)) (wa.setCell ⟨g, l.length * 4 + 1, none⟩ (.int .i64 c.t)) := by
  have hk : Keeps (fun k => some k ≠ (Value.slice (some ⟨g, 0, none⟩) (l ++ [b]).length cap).ownBlock) w wa := Keeps.of_below hb fun k h _ => h
  have how : wa.ownsRow B 64 4 (.slice (some ⟨g, 0, none⟩) (l ++ [b]).length cap) (l ++ [b]).length (flat4 (l ++ [b])) := by
    refine ⟨hown.1, ?_⟩
    rcases hown.2 with h | ⟨g', cap', cur, h1, h2, h3, h4⟩
    · exact .inl h
    · exact .inr ⟨g', cap', cur, h1, h2, (hb.block g' (Array.getElem?_eq_some_iff.1 h3).1).trans h3, h4⟩
  have h1 := (how.stored (l.length * 4 + 1) (.int .i64 c.t)).1
  refine ⟨_, rfl, ?_, hk.setCell (.inr (by simp [Value.ownBlock])) _, .inl rfl⟩
  rw [Ow.more_snoc, if_pos ht, ← flat4_set]
  simp only [List.length_append, List.length_cons, List.length_nil] at h1 ⊢
  exact h1

theorem owns_below {w w' : World} {B : Nat} {e : TypeId} {s : Nat} {v : Value} {n : Nat} {xs : List Value} (h : w.ownsRow B e s v n xs) (hb : Below w.heap.size w w') : w'.ownsRow B e s v n xs := by
  refine ⟨h.1, ?_⟩
  rcases h.2 with h | ⟨g', cap', cur, h1, h2, h3, h4⟩
  · exact .inl h
  · exact .inr ⟨g', cap', cur, h1, h2, (hb.block g' (Array.getElem?_eq_some_iff.1 h3).1).trans h3, h4⟩

-- left out: added_nil
-- left out: added_touch
-- left out: added_apart
-- left out: added_any
end Go.Proofs.YtahmddopbmjepaaDoor
namespace Go.Proofs.YtahmddopbmjepaaDoor
open Go.RowKit

namespace Ow
theorem own_at : ∀ {l : List C} {k : Nat} {s : Int}, (∀ j, j < k → inC s (l.getD j z) = false) → k < l.length → inC s (l.getD k z) = true → own l s = some ((l.getD k z).n, (l.getD k z).e)
  | [], _, _, _, h, _ => by simp at h
  | c :: r, 0, s, _, _, h => by
    simp only [List.getD_cons_zero] at h ⊢
    simp [own, h]
  | c :: r, k + 1, s, hj, hk, h => by
    have h0 := hj 0 (by omega)
    simp only [List.getD_cons_zero] at h0
    have h1 := own_at (l := r) (k := k) (s := s) (fun j hjk => by have := hj (j + 1) (by omega); simpa using this) (by simpa using hk) (by simpa using h)
    simp only [List.getD_cons_succ]
    rw [← h1]
    simp [own, h0]

theorem own_nowhere {l : List C} {s : Int} (h : ∀ j, j < l.length → inC s (l.getD j z) = false) : own l s = none := by
  refine own_none fun c hc => ?_
  obtain ⟨i, hi, rfl⟩ := List.mem_iff_getElem.1 hc
  have := h i hi
  simpa [List.getD, hi] using this

/-- an owner as the reference has it. -/
def ro : Option O → O
  | none => (-1, 0)
  | some o => o
end Ow

set_option maxRecDepth 100000 in
set_option maxHeartbeats 2000000 in
theorem refOf_any (a : Option Addr) (cap : Nat) (l : List Ow.C) (s : Int) (w : World) (hS : Cls w a cap l) :
    Calls Tryd.prog 31 #[.slice a l.length cap, .int .i64 s] w fun e w' => e = .returned (.tuple #[.int .i64 (Ow.ro (Ow.own l s)).1, .int .i64 (Ow.ro (Ow.own l s)).2]) ∧ Below w.heap.size w w' := by
  have HS := Lib.hid hS
  have hc1 := hS.1
  have hc2 := hS.2.1
  clear hS
  obtain ⟨x, y, hxy⟩ : ∃ x y, Ow.ro (Ow.own l s) = (x, y) := ⟨_, _, rfl⟩
  rw [hxy]
  have HX := Lib.hid hxy
  clear hxy
  go_enter Tryd.func31, Tryd.ntmps31
  go_wp2
  go_loopw [6] (fun i wr => ∃ k : Nat, k ≤ l.length ∧ i = .int .i64 k ∧ Hid (∀ j, j < k → Ow.inC s (l.getD j Ow.z) = false) ∧ Hid (Below w.heap.size w wr)) (fun i _ => l.length - (intOf i).toNat)
  case atStart => exact ⟨0, Nat.zero_le _, rfl, Lib.hid fun j h => by omega, Lib.hid (Below.refl _ _)⟩
  case round =>
    obtain ⟨k, hk, rfl, HE, HB⟩ := hrel
    by_cases hlt : k < l.length
    · obtain ⟨b, off, rfl, hb, c1, c2, c3, c4⟩ := (HS.out.later HB.out).cells hlt
      have k0 : (0 : Int) ≤ (k : Int) := by omega
      have k1 : (k : Int) < (l.length : Int) := by omega
      obtain ⟨⟨f, t, n, e⟩, hy⟩ : ∃ x, l.getD k Ow.z = x := ⟨_, rfl⟩
      rw [hy] at c1 c2 c3 c4
      have HY := Lib.hid hy
      simp only at c1 c2 c3 c4
      clear hy
      by_cases h1 : f ≤ s
      · by_cases h2 : s ≤ t
        · have HO : Hid (n = x ∧ e = y) := Lib.hid (by
            have h3 := Ow.own_at HE.out hlt (by rw [HY.out]; exact Ow.inC_iff.2 ⟨h1, h2⟩)
            have h4 := HX.out
            rw [h3, HY.out] at h4
            simpa [Ow.ro] using h4)
          obtain ⟨rfl, rfl⟩ := HO.out
          go_upto_region 5 with (fail)
          go_quiet (fail)
          go_wp2
          go_ret2
          exact ⟨rfl, below_drewN HB.out _⟩
        · have HN := Lib.hid (show Ow.inC s ⟨f, t, n, e⟩ = false from Ow.inC_not.2 (.inr (by simp only; omega)))
          have h2' : t < s := by omega
          go_wp2
          go_roundw
          case rel =>
            refine ⟨k + 1, by omega, by go_num, Lib.hid fun j hj => ?_, HB⟩
            rcases Nat.lt_or_ge j k with h | h
            · exact HE.out j h
            · obtain rfl : j = k := by omega
              rw [HY.out]; exact HN.out
          case measure => simp [intOf]; omega
      · have HN := Lib.hid (show Ow.inC s ⟨f, t, n, e⟩ = false from Ow.inC_not.2 (.inl (by simp only; omega)))
        have h1' : s < f := by omega
        go_wp2
        go_roundw
        case rel =>
          refine ⟨k + 1, by omega, by go_num, Lib.hid fun j hj => ?_, HB⟩
          rcases Nat.lt_or_ge j k with h | h
          · exact HE.out j h
          · obtain rfl : j = k := by omega
            rw [HY.out]; exact HN.out
        case measure => simp [intOf]; omega
    · have HO : Hid (x = -1 ∧ y = 0) := Lib.hid (by
        have h3 := Ow.own_nowhere (l := l) (s := s) fun j hj => HE.out j (by omega)
        have h4 := HX.out
        rw [h3] at h4
        simp only [Ow.ro, Prod.mk.injEq] at h4
        exact ⟨h4.1.symm, h4.2.symm⟩)
      obtain ⟨rfl, rfl⟩ := HO.out
      go_wp2
      go_ret2
      exact ⟨rfl, HB.out⟩
end Go.Proofs.YtahmddopbmjepaaDoor
