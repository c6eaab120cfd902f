/- The contract of the reference's Mark: a place put into a rising list of ints, once. -/
import Derived.Test.YtahmddopbmjepaaDoorRD12
import Derived.OwnWalk
namespace Go.Proofs.YtahmddopbmjepaaDoor
open Go.RowKit

/-- What is told of a slice of ints. -/
def Ints (w : World) (a : Option Addr) (cap : Nat) (l : List Int) : Prop :=
  l.length ≤ cap ∧ (∀ x ∈ l, -9223372036854775808 ≤ x ∧ x ≤ 9223372036854775807) ∧
  (l = [] ∨ ∃ b off, a = some ⟨b, off, none⟩ ∧ b < w.heap.size ∧ ∀ k, k < l.length → w.cell? ⟨b, off + k, none⟩ = some (.int .i64 (l.getD k 0)))

theorem Ints.later {w w' : World} {a : Option Addr} {cap : Nat} {l : List Int} (h : Ints w a cap l) (hb : Below w.heap.size w w') : Ints w' a cap l := by
  obtain ⟨h0, h1, h2⟩ := h
  refine ⟨h0, h1, ?_⟩
  rcases h2 with h2 | ⟨b, off, ha, hlt, hc⟩
  · exact .inl h2
  · exact .inr ⟨b, off, ha, Nat.lt_of_lt_of_le hlt hb.size, fun k hk => by rw [hb.cell (p := ⟨b, off + k, none⟩) hlt]; exact hc k hk⟩

/-- a slice of ints that the call itself appended to. -/
theorem ints_owned {w : World} {base : Nat} {v : Value} {l : List Int} {n : Nat} (h : w.ownsRow base 3 1 v n (l.map (Value.int .i64))) (hn : n = l.length) (h0 : 0 < l.length) (hs : ∀ x ∈ l, -9223372036854775808 ≤ x ∧ x ≤ 9223372036854775807) :
    ∃ g cap, v = .slice (some ⟨g, 0, none⟩) l.length cap ∧ base ≤ g ∧ Ints w (some ⟨g, 0, none⟩) cap l := by
  subst hn
  obtain ⟨_, hcase⟩ := h
  rcases hcase with ⟨_, hz⟩ | ⟨g, cap, cur, hv, hgB, hgg, hnc, hcm, hcs, htk⟩
  · omega
  · have hlt : g < w.heap.size := (Array.getElem?_eq_some_iff.1 hgg).1
    refine ⟨g, cap, hv, hgB, hnc, hs, .inr ⟨g, 0, rfl, hlt, ?_⟩⟩
    intro k hk
    rw [Nat.zero_add, cell_of_row w g k cur 3 (0, 0) hgg]
    have e : (cur.toList.take (l.length * 1))[k]? = cur[k]? := by
      rw [List.getElem?_take]; simp [hk]
    rw [← e, htk]
    simp [List.getD, hk]

theorem Tryd.infoInt : (Tryd.prog.info? 3).map (fun i => (i.zero, i.size, i.bytes)) = some (some (.int .i64 0), 1, 8) := by kernel_rfl

theorem mark_news {w : World} {b off : Nat} {l : List Int} (hc : ∀ k, k < l.length → w.cell? ⟨b, off + k, none⟩ = some (.int .i64 (l.getD k 0))) (hb : b < w.heap.size) {k : Nat} (hk : k ≤ l.length) {o : Obj} :
    ∀ j u, ((l.take k).map (Value.int .i64))[j]? = some u → (w.alloc o).cell? ((⟨b, off, none⟩ : Addr).add j) = some u := by
  intro j u hu
  have hj : j < k := by
    have := (List.getElem?_eq_some_iff.1 hu).1
    simp at this; omega
  have e3 : ((⟨b, off, none⟩ : Addr).add j) = ⟨b, off + j, none⟩ := by by_cases hj0 : j = 0 <;> simp [Addr.add, hj0]
  rw [e3, World.cell?_alloc_lt _ _ _ (by exact hb), hc j (by omega)]
  have e : ((l.take k).map (Value.int .i64))[j]? = some (.int .i64 (l.getD j 0)) := by
    simp [List.getD, hj, show j < l.length by omega]
  rw [e] at hu
  exact hu

theorem drop_news {w w2 : World} {b off : Nat} {l : List Int} (hc : ∀ k, k < l.length → w.cell? ⟨b, off + k, none⟩ = some (.int .i64 (l.getD k 0))) (hB : Below w.heap.size w w2) (hb : b < w.heap.size) {k : Nat} :
    ∀ j u, ((l.drop k).map (Value.int .i64))[j]? = some u → w2.cell? ((⟨b, off + k, none⟩ : Addr).add j) = some u := by
  intro j u hu
  have hj : j < l.length - k := by
    have := (List.getElem?_eq_some_iff.1 hu).1
    simpa using this
  have e3 : ((⟨b, off + k, none⟩ : Addr).add j) = ⟨b, off + (k + j), none⟩ := by by_cases hj0 : j = 0 <;> simp [Addr.add, hj0, Nat.add_assoc]
  rw [e3, hB.cell (p := ⟨b, off + (k + j), none⟩) hb, hc (k + j) (by omega)]
  have e : ((l.drop k).map (Value.int .i64))[j]? = some (.int .i64 (l.getD (k + j) 0)) := by
    simp [List.getD, show k + j < l.length by omega]
  rw [e] at hu
  exact hu

theorem one_newsI (w : World) (n : Int) : ∀ j u, [Value.int .i64 n][j]? = some u → (w.alloc (.cells #[.int .i64 n] 3)).cell? ((⟨w.heap.size, 0, none⟩ : Addr).add j) = some u := by
  intro j u hj
  match j, hj with
  | 0, hj => simp at hj; subst hj; simp [Addr.add]

theorem mark_range {l : List Int} {n : Int} (h : ∀ x ∈ l, -9223372036854775808 ≤ x ∧ x ≤ 9223372036854775807) : ∀ x ∈ Sp.mark l n, -9223372036854775808 ≤ x ∧ x ≤ 9223372036854775807 := by
  intro x hx
  rcases Sp.mark_mem.1 hx with ⟨h1, h2, h3⟩ | h1
  · omega
  · exact h x h1

/-- what Mark hands back: a slice that holds the list with the place in it. -/
def Marked (l : List Int) (n : Int) (w : World) (e : Ending) (w' : World) : Prop :=
  ∃ a cap, e = .returned (.slice a (Sp.mark l n).length cap) ∧ Ints w' a cap (Sp.mark l n) ∧ Below w.heap.size w w'

set_option maxRecDepth 100000 in
set_option maxHeartbeats 1000000 in
theorem refMark_any (b off cap : Nat) (l : List Int) (n : Int) (w : World) (hl : l.length ≤ 1000000) (hcap : l.length ≤ cap) (hr : ∀ x ∈ l, -9223372036854775808 ≤ x ∧ x ≤ 9223372036854775807)
    (hb : b < w.heap.size) (hc : ∀ k, k < l.length → w.cell? ⟨b, off + k, none⟩ = some (.int .i64 (l.getD k 0))) (hsort : l.Pairwise (· < ·)) (h0 : l ≠ []) :
    Calls Tryd.prog 42 #[.slice (some ⟨b, off, none⟩) l.length cap, .int .i64 n] w (Marked l n w) := by
  have HC := Lib.hid hc
  have HR := Lib.hid hr
  have HS := Lib.hid hsort
  have H0 := Lib.hid h0
  clear hc hr hsort h0
  go_enter Tryd.func42, Tryd.ntmps42
  go_wp2
  go_loop [5] (fun i => ∃ k : Nat, k ≤ l.length ∧ i = .int .i64 k ∧ Hid (∀ x ∈ l.drop k, n ≤ x)) (fun i => (intOf i).toNat)
  case atStart => exact ⟨l.length, Nat.le_refl _, rfl, Lib.hid (by simp)⟩
  case round =>
    obtain ⟨k, hk, rfl, HD⟩ := hrel
    by_cases hgo : 0 < k ∧ n ≤ l.getD (k - 1) 0
    · obtain ⟨hk0, hge⟩ := hgo
      have hcell := HC.out (k - 1) (by omega)
      have hd : ∀ x ∈ l.drop (k - 1), n ≤ x := by
        intro x hx
        have hlt : k - 1 < l.length := by omega
        rw [← List.getElem_cons_drop hlt] at hx
        rcases List.mem_cons.1 hx with rfl | hx
        · have : l.getD (k - 1) 0 = l[k - 1] := by simp [List.getD, hlt]
          omega
        · rw [show k - 1 + 1 = k from by omega] at hx
          exact HD.out x hx
      have HD2 := Lib.hid hd
      generalize l.getD (k - 1) 0 = x at hcell hge
      clear hd
      have ek : ((k : Int) - 1).toNat = k - 1 := by omega
      go_wp2
      go_round
      case rel => exact ⟨k - 1, by omega, by go_num, HD2⟩
      case measure => simp [intOf]; omega
    · have hp : ∀ x ∈ l.take k, x < n := by
        by_cases hk0 : k = 0
        · subst hk0; simp
        · have := Sp.below_of_sorted HS.out (k := k - 1) (n := n) (by omega) (by
            have : ¬ n ≤ l.getD (k - 1) 0 := fun h => hgo ⟨by omega, h⟩
            omega)
          rw [show k - 1 + 1 = k from by omega] at this
          exact this
      have HP := Lib.hid hp
      clear hp
      obtain ⟨i0, hi, hz0, hz1, hz2⟩ := info_parts Tryd.infoInt
      have hl0 : 0 < l.length := List.length_pos_iff.2 H0.out
      by_cases hk0 : k < 1
      · clear hgo
        go_upto_region 4 with (fail)
        by_cases hn0 : n < 0
        · have hm := Sp.mark_out (l := l) (n := n) (.inl hn0)
          go_wp2
          go_ret
          exact ⟨some ⟨b, off, none⟩, cap, by rw [hm]; rfl, by rw [hm]; exact ⟨hcap, HR.out, .inr ⟨b, off, rfl, hb, HC.out⟩⟩, Below.refl _ _⟩
        · by_cases hn1 : 16384 < n
          · have hm := Sp.mark_out (l := l) (n := n) (.inr hn1)
            go_wp2
            go_ret
            exact ⟨some ⟨b, off, none⟩, cap, by rw [hm]; rfl, by rw [hm]; exact ⟨hcap, HR.out, .inr ⟨b, off, rfl, hb, HC.out⟩⟩, Below.refl _ _⟩
          · by_cases hkl : k < l.length
            · have hck := HC.out k hkl
              by_cases he : l.getD k 0 = n
              · have hm := Sp.mark_here (l := l) (n := n) (k := k) (by omega) (by omega) hkl HP.out HD.out he
                have HM := Lib.hid hm
                have hbq : (l.getD k 0 == n) = true := by rw [beq_iff_eq]; exact he
                generalize l.getD k 0 = y at hck he hbq
                clear hm he
                go_wp2
                go_ret
                exact ⟨some ⟨b, off, none⟩, cap, by rw [HM.out]; rfl, by rw [HM.out]; exact ⟨hcap, HR.out, .inr ⟨b, off, rfl, hb, HC.out⟩⟩, Below.refl _ _⟩
              · have hm := Sp.mark_new (l := l) (n := n) (k := k) (by omega) (by omega) HP.out HD.out (fun _ => he)
                have HM := Lib.hid hm
                have hbq : (l.getD k 0 == n) = false := by rw [beq_eq_false_iff_ne]; exact he
                have hckc : ¬ cap = k := by omega
                generalize l.getD k 0 = y at hck he hbq
                clear hm he
                go_upto_region 6 with (fail)
                go_wp2_with (at_builtin; refine wpList_append_own _ rfl (.tmp 43) (.tmp 46) 31 rfl w.heap.size 3 i0 (.int .i64 0) 1 8 Tryd.underlying31 hi hz0 hz1 hz2 rfl (by decide) _ 0 [] rfl (World.ownsRow_made w #[] 0 (Nat.le_refl _) (by decide) rfl) ⟨b, off, none⟩ k cap ((l.take k).map (Value.int .i64)) rfl (by rw [List.length_map, List.length_take]; omega) (mark_news HC.out hb hk) (ints_oneCell _ _) (by unfold maxLen; omega) (by omega) (by simp) ?_)
                intro v1 w1 hown1 hgrow1 _
                have hown1 : w1.ownsRow w.heap.size 3 1 v1 k ((l.take k).map (Value.int .i64)) := by simpa [List.map_take] using hown1
                have hb1 : Below w.heap.size w w1 := Below.grown ((Below.refl _ _).alloc (Nat.le_refl _) _) hgrow1 (by simp) (fun g hg => by simp [Value.ownBlock] at hg; omega)
                have HB1 := Lib.hid hb1
                have HO1 := Lib.hid hown1
                clear hb1 hown1 hgrow1
                go_upto_region 7 with (fail)
                go_wp2_with (at_builtin; refine wpList_append_own _ rfl (.tmp 48) (.tmp 50) 31 rfl w.heap.size 3 i0 (.int .i64 0) 1 8 Tryd.underlying31 hi hz0 hz1 hz2 rfl (by decide) _ k ((l.take k).map (Value.int .i64)) rfl (HO1.out.alloc _) ⟨w1.heap.size, 0, none⟩ 1 1 [Value.int .i64 n] rfl rfl (one_newsI w1 n) (by intro u hu; simp at hu; subst hu; rfl) (by unfold maxLen; omega) (by omega) (by have := HB1.out.size; simp; omega) ?_)
                intro v2 w2 hown2 hgrow2 _
                have hown2 : w2.ownsRow w.heap.size 3 1 v2 (k + 1) ((l.take k).map (Value.int .i64) ++ [Value.int .i64 n]) := by simpa [List.map_take] using hown2
                have hb2 : Below w.heap.size w w2 := Below.grown (HB1.out.alloc HB1.out.size _) hgrow2 (by have := HB1.out.size; simp; omega) (fun g hg => (HO1.out.lt g hg).1)
                have HB2 := Lib.hid hb2
                have HO2 := Lib.hid hown2
                clear hb2 hown2 hgrow2 HB1 HO1
                go_upto_region 8 with (fail)
                go_wp2_with (at_builtin; refine wpList_append_own _ rfl (.tmp 52) (.tmp 55) 31 rfl w.heap.size 3 i0 (.int .i64 0) 1 8 Tryd.underlying31 hi hz0 hz1 hz2 rfl (by decide) _ (k + 1) ((l.take k).map (Value.int .i64) ++ [Value.int .i64 n]) rfl HO2.out ⟨b, off + k, none⟩ (l.length - k) (cap - k) ((l.drop k).map (Value.int .i64)) rfl (by simp) (drop_news (l := l) HC.out HB2.out hb) (ints_oneCell _ _) (by unfold maxLen; omega) (by omega) HB2.out.size ?_)
                intro v3 w3 hown3 hgrow3 _
                have hb3 : Below w.heap.size w w3 := Below.grown HB2.out hgrow3 HB2.out.size (fun g hg => (HO2.out.lt g hg).1)
                have hq : ((l.take k).map (Value.int .i64) ++ [Value.int .i64 n] ++ ((l.drop k).map (Value.int .i64))) = (Sp.mark l n).map (Value.int .i64) := by rw [HM.out]; simp
                have hown3 : w3.ownsRow w.heap.size 3 1 v3 (k + 1 + (l.length - k)) ((Sp.mark l n).map (Value.int .i64)) := by rw [← hq]; simpa [List.map_take] using hown3
                have hlenm : k + 1 + (l.length - k) = (Sp.mark l n).length := by rw [HM.out, List.length_append, List.length_cons, List.length_take, List.length_drop]; omega
                obtain ⟨g, cap3, hv, _, hI⟩ := ints_owned hown3 hlenm (by rw [← hlenm]; omega) (mark_range HR.out)
                have HI := Lib.hid hI
                have HB3 := Lib.hid hb3
                clear hown3 hgrow3 hb3 hI hq hlenm HB2 HO2
                subst hv
                go_wp2
                go_ret
                exact ⟨_, _, rfl, HI.out, HB3.out⟩
            · exact absurd hkl (by omega)

      · have hcell := HC.out (k - 1) (by omega)
        have hlt : ¬ n ≤ l.getD (k - 1) 0 := fun h => hgo ⟨by omega, h⟩
        generalize l.getD (k - 1) 0 = x at hcell hlt
        clear hgo
        go_upto_region 4 with (fail)
        clear hcell hlt
        by_cases hn0 : n < 0
        · have hm := Sp.mark_out (l := l) (n := n) (.inl hn0)
          go_wp2
          go_ret
          exact ⟨some ⟨b, off, none⟩, cap, by rw [hm]; rfl, by rw [hm]; exact ⟨hcap, HR.out, .inr ⟨b, off, rfl, hb, HC.out⟩⟩, Below.refl _ _⟩
        · by_cases hn1 : 16384 < n
          · have hm := Sp.mark_out (l := l) (n := n) (.inr hn1)
            go_wp2
            go_ret
            exact ⟨some ⟨b, off, none⟩, cap, by rw [hm]; rfl, by rw [hm]; exact ⟨hcap, HR.out, .inr ⟨b, off, rfl, hb, HC.out⟩⟩, Below.refl _ _⟩
          · by_cases hkl : k < l.length
            · have hck := HC.out k hkl
              by_cases he : l.getD k 0 = n
              · have hm := Sp.mark_here (l := l) (n := n) (k := k) (by omega) (by omega) hkl HP.out HD.out he
                have HM := Lib.hid hm
                have hbq : (l.getD k 0 == n) = true := by rw [beq_iff_eq]; exact he
                generalize l.getD k 0 = y at hck he hbq
                clear hm he
                go_wp2
                go_ret
                exact ⟨some ⟨b, off, none⟩, cap, by rw [HM.out]; rfl, by rw [HM.out]; exact ⟨hcap, HR.out, .inr ⟨b, off, rfl, hb, HC.out⟩⟩, Below.refl _ _⟩
              · have hm := Sp.mark_new (l := l) (n := n) (k := k) (by omega) (by omega) HP.out HD.out (fun _ => he)
                have HM := Lib.hid hm
                have hbq : (l.getD k 0 == n) = false := by rw [beq_eq_false_iff_ne]; exact he
                have hckc : ¬ cap = k := by omega
                generalize l.getD k 0 = y at hck he hbq
                clear hm he
                go_upto_region 6 with (fail)
                go_wp2_with (at_builtin; refine wpList_append_own _ rfl (.tmp 43) (.tmp 46) 31 rfl w.heap.size 3 i0 (.int .i64 0) 1 8 Tryd.underlying31 hi hz0 hz1 hz2 rfl (by decide) _ 0 [] rfl (World.ownsRow_made w #[] 0 (Nat.le_refl _) (by decide) rfl) ⟨b, off, none⟩ k cap ((l.take k).map (Value.int .i64)) rfl (by rw [List.length_map, List.length_take]; omega) (mark_news HC.out hb hk) (ints_oneCell _ _) (by unfold maxLen; omega) (by omega) (by simp) ?_)
                intro v1 w1 hown1 hgrow1 _
                have hown1 : w1.ownsRow w.heap.size 3 1 v1 k ((l.take k).map (Value.int .i64)) := by simpa [List.map_take] using hown1
                have hb1 : Below w.heap.size w w1 := Below.grown ((Below.refl _ _).alloc (Nat.le_refl _) _) hgrow1 (by simp) (fun g hg => by simp [Value.ownBlock] at hg; omega)
                have HB1 := Lib.hid hb1
                have HO1 := Lib.hid hown1
                clear hb1 hown1 hgrow1
                go_upto_region 7 with (fail)
                go_wp2_with (at_builtin; refine wpList_append_own _ rfl (.tmp 48) (.tmp 50) 31 rfl w.heap.size 3 i0 (.int .i64 0) 1 8 Tryd.underlying31 hi hz0 hz1 hz2 rfl (by decide) _ k ((l.take k).map (Value.int .i64)) rfl (HO1.out.alloc _) ⟨w1.heap.size, 0, none⟩ 1 1 [Value.int .i64 n] rfl rfl (one_newsI w1 n) (by intro u hu; simp at hu; subst hu; rfl) (by unfold maxLen; omega) (by omega) (by have := HB1.out.size; simp; omega) ?_)
                intro v2 w2 hown2 hgrow2 _
                have hown2 : w2.ownsRow w.heap.size 3 1 v2 (k + 1) ((l.take k).map (Value.int .i64) ++ [Value.int .i64 n]) := by simpa [List.map_take] using hown2
                have hb2 : Below w.heap.size w w2 := Below.grown (HB1.out.alloc HB1.out.size _) hgrow2 (by have := HB1.out.size; simp; omega) (fun g hg => (HO1.out.lt g hg).1)
                have HB2 := Lib.hid hb2
                have HO2 := Lib.hid hown2
                clear hb2 hown2 hgrow2 HB1 HO1
                go_upto_region 8 with (fail)
                go_wp2_with (at_builtin; refine wpList_append_own _ rfl (.tmp 52) (.tmp 55) 31 rfl w.heap.size 3 i0 (.int .i64 0) 1 8 Tryd.underlying31 hi hz0 hz1 hz2 rfl (by decide) _ (k + 1) ((l.take k).map (Value.int .i64) ++ [Value.int .i64 n]) rfl HO2.out ⟨b, off + k, none⟩ (l.length - k) (cap - k) ((l.drop k).map (Value.int .i64)) rfl (by simp) (drop_news (l := l) HC.out HB2.out hb) (ints_oneCell _ _) (by unfold maxLen; omega) (by omega) HB2.out.size ?_)
                intro v3 w3 hown3 hgrow3 _
                have hb3 : Below w.heap.size w w3 := Below.grown HB2.out hgrow3 HB2.out.size (fun g hg => (HO2.out.lt g hg).1)
                have hq : ((l.take k).map (Value.int .i64) ++ [Value.int .i64 n] ++ ((l.drop k).map (Value.int .i64))) = (Sp.mark l n).map (Value.int .i64) := by rw [HM.out]; simp
                have hown3 : w3.ownsRow w.heap.size 3 1 v3 (k + 1 + (l.length - k)) ((Sp.mark l n).map (Value.int .i64)) := by rw [← hq]; simpa [List.map_take] using hown3
                have hlenm : k + 1 + (l.length - k) = (Sp.mark l n).length := by rw [HM.out, List.length_append, List.length_cons, List.length_take, List.length_drop]; omega
                obtain ⟨g, cap3, hv, _, hI⟩ := ints_owned hown3 hlenm (by rw [← hlenm]; omega) (mark_range HR.out)
                have HI := Lib.hid hI
                have HB3 := Lib.hid hb3
                clear hown3 hgrow3 hb3 hI hq hlenm HB2 HO2
                subst hv
                go_wp2
                go_ret
                exact ⟨_, _, rfl, HI.out, HB3.out⟩
            · have hm := Sp.mark_new (l := l) (n := n) (k := k) (by omega) (by omega) HP.out HD.out (fun h => absurd h hkl)
              have HM := Lib.hid hm
              have hdrop : l.drop k = [] := List.drop_of_length_le (by omega)
              obtain rfl : k = l.length := by omega
              clear hm
              by_cases hckc : cap = l.length
              · subst hckc
                go_upto_region 6 with (fail)
                go_wp2_with (at_builtin; refine wpList_append_own _ rfl (.tmp 43) (.tmp 46) 31 rfl w.heap.size 3 i0 (.int .i64 0) 1 8 Tryd.underlying31 hi hz0 hz1 hz2 rfl (by decide) _ 0 [] rfl (World.ownsRow_made w #[] 0 (Nat.le_refl _) (by decide) rfl) ⟨b, off, none⟩ l.length l.length ((l.take l.length).map (Value.int .i64)) rfl (by rw [List.length_map, List.length_take]; omega) (mark_news HC.out hb hk) (ints_oneCell _ _) (by unfold maxLen; omega) (by omega) (by simp) ?_)
                intro v1 w1 hown1 hgrow1 _
                have hown1 : w1.ownsRow w.heap.size 3 1 v1 l.length ((l.take l.length).map (Value.int .i64)) := by simpa [List.map_take] using hown1
                have hb1 : Below w.heap.size w w1 := Below.grown ((Below.refl _ _).alloc (Nat.le_refl _) _) hgrow1 (by simp) (fun g hg => by simp [Value.ownBlock] at hg; omega)
                have HB1 := Lib.hid hb1
                have HO1 := Lib.hid hown1
                clear hb1 hown1 hgrow1
                go_upto_region 7 with (fail)
                go_wp2_with (at_builtin; refine wpList_append_own _ rfl (.tmp 48) (.tmp 50) 31 rfl w.heap.size 3 i0 (.int .i64 0) 1 8 Tryd.underlying31 hi hz0 hz1 hz2 rfl (by decide) _ l.length ((l.take l.length).map (Value.int .i64)) rfl (HO1.out.alloc _) ⟨w1.heap.size, 0, none⟩ 1 1 [Value.int .i64 n] rfl rfl (one_newsI w1 n) (by intro u hu; simp at hu; subst hu; rfl) (by unfold maxLen; omega) (by omega) (by have := HB1.out.size; simp; omega) ?_)
                intro v2 w2 hown2 hgrow2 _
                have hown2 : w2.ownsRow w.heap.size 3 1 v2 (l.length + 1) ((l.take l.length).map (Value.int .i64) ++ [Value.int .i64 n]) := by simpa [List.map_take] using hown2
                have hb2 : Below w.heap.size w w2 := Below.grown (HB1.out.alloc HB1.out.size _) hgrow2 (by have := HB1.out.size; simp; omega) (fun g hg => (HO1.out.lt g hg).1)
                have HB2 := Lib.hid hb2
                have HO2 := Lib.hid hown2
                clear hb2 hown2 hgrow2 HB1 HO1
                go_upto_region 8 with (fail)
                go_wp2_with (at_builtin; refine wpList_append_own _ rfl (.tmp 52) (.tmp 55) 31 rfl w.heap.size 3 i0 (.int .i64 0) 1 8 Tryd.underlying31 hi hz0 hz1 hz2 rfl (by decide) _ (l.length + 1) ((l.take l.length).map (Value.int .i64) ++ [Value.int .i64 n]) rfl HO2.out ⟨b, off, none⟩ 0 0 (([] : List Int).map (Value.int .i64)) rfl rfl (by intro j u hu; simp at hu) (ints_oneCell _ _) (by unfold maxLen; omega) (by omega) HB2.out.size ?_)
                intro v3 w3 hown3 hgrow3 _
                have hb3 : Below w.heap.size w w3 := Below.grown HB2.out hgrow3 HB2.out.size (fun g hg => (HO2.out.lt g hg).1)
                have hq : ((l.take l.length).map (Value.int .i64) ++ [Value.int .i64 n] ++ (([] : List Int).map (Value.int .i64))) = (Sp.mark l n).map (Value.int .i64) := by rw [HM.out]; simp [hdrop]
                have hown3 : w3.ownsRow w.heap.size 3 1 v3 (l.length + 1 + 0) ((Sp.mark l n).map (Value.int .i64)) := by rw [← hq]; simpa [List.map_take] using hown3
                have hlenm : l.length + 1 + 0 = (Sp.mark l n).length := by rw [HM.out, List.length_append, List.length_cons, List.length_take, List.length_drop]; omega
                obtain ⟨g, cap3, hv, _, hI⟩ := ints_owned hown3 hlenm (by rw [← hlenm]; omega) (mark_range HR.out)
                have HI := Lib.hid hI
                have HB3 := Lib.hid hb3
                clear hown3 hgrow3 hb3 hI hq hlenm HB2 HO2
                subst hv
                go_wp2
                go_ret
                exact ⟨_, _, rfl, HI.out, HB3.out⟩
              · have hdl : l.length - l.length = 0 := Nat.sub_self _
                go_upto_region 6 with (fail)
                go_wp2_with (at_builtin; refine wpList_append_own _ rfl (.tmp 43) (.tmp 46) 31 rfl w.heap.size 3 i0 (.int .i64 0) 1 8 Tryd.underlying31 hi hz0 hz1 hz2 rfl (by decide) _ 0 [] rfl (World.ownsRow_made w #[] 0 (Nat.le_refl _) (by decide) rfl) ⟨b, off, none⟩ l.length cap ((l.take l.length).map (Value.int .i64)) rfl (by rw [List.length_map, List.length_take]; omega) (mark_news HC.out hb hk) (ints_oneCell _ _) (by unfold maxLen; omega) (by omega) (by simp) ?_)
                intro v1 w1 hown1 hgrow1 _
                have hown1 : w1.ownsRow w.heap.size 3 1 v1 l.length ((l.take l.length).map (Value.int .i64)) := by simpa [List.map_take] using hown1
                have hb1 : Below w.heap.size w w1 := Below.grown ((Below.refl _ _).alloc (Nat.le_refl _) _) hgrow1 (by simp) (fun g hg => by simp [Value.ownBlock] at hg; omega)
                have HB1 := Lib.hid hb1
                have HO1 := Lib.hid hown1
                clear hb1 hown1 hgrow1
                go_upto_region 7 with (fail)
                go_wp2_with (at_builtin; refine wpList_append_own _ rfl (.tmp 48) (.tmp 50) 31 rfl w.heap.size 3 i0 (.int .i64 0) 1 8 Tryd.underlying31 hi hz0 hz1 hz2 rfl (by decide) _ l.length ((l.take l.length).map (Value.int .i64)) rfl (HO1.out.alloc _) ⟨w1.heap.size, 0, none⟩ 1 1 [Value.int .i64 n] rfl rfl (one_newsI w1 n) (by intro u hu; simp at hu; subst hu; rfl) (by unfold maxLen; omega) (by omega) (by have := HB1.out.size; simp; omega) ?_)
                intro v2 w2 hown2 hgrow2 _
                have hown2 : w2.ownsRow w.heap.size 3 1 v2 (l.length + 1) ((l.take l.length).map (Value.int .i64) ++ [Value.int .i64 n]) := by simpa [List.map_take] using hown2
                have hb2 : Below w.heap.size w w2 := Below.grown (HB1.out.alloc HB1.out.size _) hgrow2 (by have := HB1.out.size; simp; omega) (fun g hg => (HO1.out.lt g hg).1)
                have HB2 := Lib.hid hb2
                have HO2 := Lib.hid hown2
                clear hb2 hown2 hgrow2 HB1 HO1
                go_upto_region 8 with (fail)
                go_wp2_with (at_builtin; refine wpList_append_own _ rfl (.tmp 52) (.tmp 55) 31 rfl w.heap.size 3 i0 (.int .i64 0) 1 8 Tryd.underlying31 hi hz0 hz1 hz2 rfl (by decide) _ (l.length + 1) ((l.take l.length).map (Value.int .i64) ++ [Value.int .i64 n]) rfl HO2.out ⟨b, off + l.length, none⟩ 0 (cap - l.length) (([] : List Int).map (Value.int .i64)) rfl rfl (by intro j u hu; simp at hu) (ints_oneCell _ _) (by unfold maxLen; omega) (by omega) HB2.out.size ?_)
                intro v3 w3 hown3 hgrow3 _
                have hb3 : Below w.heap.size w w3 := Below.grown HB2.out hgrow3 HB2.out.size (fun g hg => (HO2.out.lt g hg).1)
                have hq : ((l.take l.length).map (Value.int .i64) ++ [Value.int .i64 n] ++ (([] : List Int).map (Value.int .i64))) = (Sp.mark l n).map (Value.int .i64) := by rw [HM.out]; simp [hdrop]
                have hown3 : w3.ownsRow w.heap.size 3 1 v3 (l.length + 1 + 0) ((Sp.mark l n).map (Value.int .i64)) := by rw [← hq]; simpa [List.map_take] using hown3
                have hlenm : l.length + 1 + 0 = (Sp.mark l n).length := by rw [HM.out, List.length_append, List.length_cons, List.length_take, List.length_drop]; omega
                obtain ⟨g, cap3, hv, _, hI⟩ := ints_owned hown3 hlenm (by rw [← hlenm]; omega) (mark_range HR.out)
                have HI := Lib.hid hI
                have HB3 := Lib.hid hb3
                clear hown3 hgrow3 hb3 hI hq hlenm HB2 HO2
                subst hv
                go_wp2
                go_ret
                exact ⟨_, _, rfl, HI.out, HB3.out⟩

end Go.Proofs.YtahmddopbmjepaaDoor
