/- Rows of words: pieces. -/
import Derived.Test.YtokcbcjonbjkgaaGreatDoorWds
namespace Go.Proofs.YtokcbcjonbjkgaaGreatDoor
open Go.RowKit Go.Shelf
attribute [local go_sem] Oper.semAt_some
set_option linter.unusedVariables false
set_option linter.unusedSimpArgs false

theorem take_succ_getD {α : Type} {l : List α} {d : α} {k : Nat} (h : k < l.length) : l.take (k + 1) = l.take k ++ [l.getD k d] := by
  rw [List.take_succ_eq_append_getElem h, getD_eq h]
theorem wcells_len (ws : List (List UInt8)) : (wcells ws).length = ws.length := by simp [wcells]
theorem RowW.empty {w W : World} (hb : Below w.heap.size w W) : RowW w (.slice (some ⟨W.heap.size, 0, Option.none⟩) 0 0) [] (W.alloc (.cells #[] 9)) :=
  ⟨⟨by simp [wcells], .inr ⟨W.heap.size, 0, _, rfl, hb.size, World.alloc_heap_new W _, Nat.le_refl _, by decide, rfl, by simp [wcells]⟩⟩, hb.alloc hb.size _⟩
theorem news_of {w : World} {b off cap : Nat} {ws : List (List UInt8)} (h : Wds w (some ⟨b, off, Option.none⟩) cap ws) : ∀ j u, (wcells ws)[j]? = some u → w.cell? ((⟨b, off, Option.none⟩ : Addr).add j) = some u := by
  intro j u hu
  have hj : j < ws.length := by
    have := (List.getElem?_eq_some_iff.1 hu).1
    simpa [wcells] using this
  obtain ⟨b', off', he, _, hc⟩ := h.get (by omega)
  cases he
  have e : (⟨b, off, Option.none⟩ : Addr).add j = ⟨b, off + j, Option.none⟩ := by unfold Addr.add; split <;> simp_all
  rw [e, hc j hj, getD_eq hj]
  simpa [wcells, hj] using hu
theorem news_one {ws : List (List UInt8)} : ∀ u ∈ wcells ws, u.oneCell' = true := by
  intro u hu
  obtain ⟨s, _, rfl⟩ := List.mem_map.1 hu
  rfl
theorem RowW.more {w W w1 : World} {v v' : Value} {ws xs : List (List UInt8)} {n : Nat} {cs : List Value} (h : RowW w v ws W) (h1 : w1.ownsRow w.heap.size 9 1 v' n cs) (hn : n = ws.length + xs.length) (hc : cs = wcells ws ++ wcells xs) (hg : W.grownBy w1 v.ownBlock) : RowW w v' (ws ++ xs) w1 := by
  refine ⟨?_, h.2.trans ((Keeps.of_grown (S := fun k => some k ≠ v.ownBlock) hg fun r e h => h e.symm).below h.2.size fun k hk e => by have := (h.1.lt k e.symm).1; omega)⟩
  subst hn hc
  rw [List.length_append]
  simpa [wcells] using h1
theorem Wds.drop {w : World} {b off cap : Nat} {ws : List (List UInt8)} (h : Wds w (some ⟨b, off, Option.none⟩) cap ws) (n : Nat) (hn : n < cap) (hnw : n ≤ ws.length) : Wds w (some ⟨b, off + n, Option.none⟩) (cap - n) (ws.drop n) := by
  obtain ⟨h0, h1, h2, h3⟩ := h
  refine ⟨by rw [List.length_drop]; omega, by omega, fun s hs => h2 s (List.mem_of_mem_drop hs), ?_⟩
  rcases h3 with rfl | ⟨b', off', he, hlt, hc⟩
  · left; simp
  · cases he
    refine .inr ⟨b, off + n, rfl, hlt, fun k hk => ?_⟩
    rw [List.length_drop] at hk
    rw [Nat.add_assoc, hc (n + k) (by omega), getD_eq (l := ws) (by omega), getD_eq (by rw [List.length_drop]; exact hk), List.getElem_drop]
theorem Wds.take {w : World} {a : Option Addr} {cap : Nat} {ws : List (List UInt8)} (h : Wds w a cap ws) (n : Nat) : Wds w a cap (ws.take n) := by
  obtain ⟨h0, h1, h2, h3⟩ := h
  refine ⟨by rw [List.length_take]; omega, h1, fun s hs => h2 s (List.mem_of_mem_take hs), ?_⟩
  rcases h3 with rfl | ⟨b, off, ha, hlt, hc⟩
  · left; simp
  · refine .inr ⟨b, off, ha, hlt, fun k hk => ?_⟩
    rw [List.length_take] at hk
    rw [hc k (by omega), getD_eq (l := ws) (by omega), getD_eq (by rw [List.length_take]; exact hk), List.getElem_take]
end Go.Proofs.YtokcbcjonbjkgaaGreatDoor
