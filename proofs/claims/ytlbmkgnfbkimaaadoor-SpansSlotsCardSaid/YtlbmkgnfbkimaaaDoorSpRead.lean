/- The contract of the reference's ReadSpans. -/
import Derived.Test.YtlbmkgnfbkimaaaDoorSpText
import Derived.Test.YtlbmkgnfbkimaaaDoorSpMay
import Derived.Test.YtlbmkgnfbkimaaaDoorSpReadPlain
namespace Go.Proofs.YtlbmkgnfbkimaaaDoor
open Go.RowKit

theorem two_news (w : World) (x y : Int) : ∀ j u, [Value.int .i64 x, Value.int .i64 y][j]? = some u → (w.alloc (.cells #[.int .i64 x, .int .i64 y] 39)).cell? ((⟨w.heap.size, 0, none⟩ : Addr).add j) = some u := by
  intro j u hj
  match j, hj with
  | 0, hj => simp at hj; subst hj; simp [Addr.add]
  | 1, hj => simp at hj; subst hj; simp [Addr.add]

theorem digit_ok {l : List Sp.S} {n f : Int} {d k x : Nat} (h : Rd.Ok ⟨l, n, f, d⟩ k) (h1 : 48 ≤ x) (h2 : x ≤ 57) (h3 : n < 16384) : Rd.Ok ⟨l, 10 * n + ((x : Int) - 48), f, d + 1⟩ (k + 1) := by
  obtain ⟨o1, o2, o3, o4, o5, o6, o7⟩ := h
  simp only at o1 o2 o3 o4 o5 o6 o7
  exact ⟨by simp only; omega, by simp only; omega, o3, o4, by simp only; omega, by simp only; omega, o7⟩

theorem minus_ok {l : List Sp.S} {n f : Int} {d k : Nat} (h : Rd.Ok ⟨l, n, f, d⟩ k) : Rd.Ok ⟨l, 0, n, 0⟩ (k + 1) := by
  obtain ⟨o1, o2, o3, o4, o5, o6, o7⟩ := h
  simp only at o1 o2 o3 o4 o5 o6 o7
  exact ⟨by simp only; omega, by simp only; omega, by simp only; omega, by simp only; omega, by simp only; omega, by simp only; omega, o7⟩

open Classical in
/-- what ReadSpans hands back. -/
noncomputable def readOf (bs : List UInt8) : Option (List Sp.S) :=
  match Rd.all bs with
  | none => none
  | some l => if Sp.Valid l ∧ textS (Sp.mixS 0 l []) = bs then some l else none

def ReadPost (bs : List UInt8) (w : World) (e : Ending) (w' : World) : Prop :=
  match readOf bs with
  | none => e = .returned (.tuple #[.slice none 0 0, .bool false]) ∧ Below w.heap.size w w'
  | some l => ∃ a cap, e = .returned (.tuple #[.slice a l.length cap, .bool true]) ∧ Spans w' a cap l ∧ Below w.heap.size w w'

theorem readOf_none {bs : List UInt8} (h : Rd.all bs = none) : readOf bs = none := by unfold readOf; rw [h]

theorem spans_owned_r {w : World} {base : Nat} {v : Value} {l : List Sp.S} (h : w.ownsRow base 39 2 v l.length (spanCells l)) (hl : l.length ≤ 1000000) (hr : ∀ s ∈ l, -9223372036854775808 ≤ s.1 ∧ s.1 ≤ 9223372036854775807 ∧ -9223372036854775808 ≤ s.2 ∧ s.2 ≤ 9223372036854775807) :
    ∃ a cap, v = .slice a l.length cap ∧ Spans w a cap l := by
  obtain ⟨_, hcase⟩ := h
  rcases hcase with ⟨h1, h2⟩ | ⟨g, cap, cur, h1, hgB, hgg, hnc, hcm, hcs, htk⟩
  · have h0 : l = [] := List.eq_nil_of_length_eq_zero h2
    subst h0
    exact ⟨none, 0, h1, by simp, by simp, hr, .inl rfl⟩
  · have hlt : g < w.heap.size := (Array.getElem?_eq_some_iff.1 hgg).1
    refine ⟨some ⟨g, 0, none⟩, cap, h1, hnc, by omega, hr, .inr ⟨g, 0, rfl, hlt, ?_⟩⟩
    intro k hk
    have at_ : ∀ j, j < l.length * 2 → w.cell? ⟨g, j, none⟩ = (spanCells l)[j]? := by
      intro j hj
      rw [cell_of_row w g j cur 39 (0, 0) hgg, ← htk, List.getElem?_take, if_pos hj]
      simp
    have key : ∀ (l : List Sp.S) (k : Nat), k < l.length → (spanCells l)[k * 2]? = some (.int .i64 (l.getD k (0, 0)).1) ∧ (spanCells l)[k * 2 + 1]? = some (.int .i64 (l.getD k (0, 0)).2) := by
      intro l
      induction l with
      | nil => intro k hk; simp at hk
      | cons s l ih =>
        intro k hk
        cases k with
        | zero => exact ⟨rfl, rfl⟩
        | succ k =>
          have := ih k (by simpa using hk)
          have e1 : (k + 1) * 2 = k * 2 + 1 + 1 := by omega
          have e2 : (k + 1) * 2 + 1 = k * 2 + 1 + 1 + 1 := by omega
          rw [e2, e1]
          simpa [spanCells] using this
    have hk2 := key l k hk
    rw [Nat.zero_add, at_ _ (by omega), at_ _ (by omega)]
    exact hk2

theorem readOf_some {bs : List UInt8} {l : List Sp.S} (h : Rd.all bs = some l) (hv : Sp.Valid l) (ht : textS (Sp.mixS 0 l []) = bs) : readOf bs = some l := by
  unfold readOf; rw [h]; exact if_pos ⟨hv, ht⟩

theorem readOf_not {bs : List UInt8} {l : List Sp.S} (h : Rd.all bs = some l) (hn : ¬ (Sp.Valid l ∧ textS (Sp.mixS 0 l []) = bs)) : readOf bs = none := by
  unfold readOf; rw [h]; exact if_neg hn

set_option maxRecDepth 100000 in
set_option maxHeartbeats 4000000 in
open Classical in
theorem refRead_some (s : ByteArray) (w : World) (hs : s.size ≤ 1000) (h0 : s.data.toList ≠ []) :
    Calls Tryd.prog 27 #[.string s] w (ReadPost s.data.toList w) := by
  have hse : s.toList.isEmpty = false := by
    rw [Lib.toList_data]
    cases h : s.data.toList with
    | nil => exact absurd h h0
    | cons x r => rfl
  have HNE := Lib.hid h0
  clear h0
  obtain ⟨i0, hi, hz0, hz1, hz2⟩ := info_parts Tryd.infoSpan
  go_enter Tryd.func27, Tryd.ntmps27
  go_wp2_with fail
  go_loopw [2, 3, 4, 5, 6, 7, 8] (fun r o vl vn vf vd i wr => ∃ (k : Nat) (v : Value) (l : List Sp.S) (n f : Int) (d : Nat), k ≤ s.size + 1 ∧ v = vl ∧ i = .int .i64 k ∧ vn = .int .i64 n ∧ vf = .int .i64 f ∧ vd = .int .i64 d ∧ Hid (wr.ownsRow w.heap.size 39 2 v l.length (spanCells l)) ∧ Hid (Rd.run s.data.toList k = some ⟨l, n, f, d⟩) ∧ Hid (Rd.Ok ⟨l, n, f, d⟩ k) ∧ Hid (Below w.heap.size w wr)) (fun _ _ _ _ _ _ i _ => s.size + 1 - (intOf i).toNat)
  case atStart => exact ⟨0, _, [], 0, -1, 0, Nat.zero_le _, rfl, rfl, rfl, rfl, rfl, Lib.hid (World.ownsRow_nil _ _ _ _), Lib.hid rfl, Lib.hid ⟨by decide, by decide, by decide, by decide, Nat.le_refl _, Nat.le_refl _, by simp⟩, Lib.hid (Below.refl _ _)⟩
  case round =>
    obtain ⟨k, v, l, n, f, d, hk, rfl, rfl, rfl, rfl, rfl, HO, HRUN, HOK, HB⟩ := hrel
    obtain ⟨o1, o2, o3, o4, o5, o6, _⟩ := HOK.out
    simp only at o1 o2 o3 o4 o5 o6
    by_cases hlt : k < s.size
    · have hxe : (s.data.toList[k]?).map UInt8.toNat = some s[k].toNat := by
        have : k < s.data.toList.length := by simpa using hlt
        rw [List.getElem?_eq_getElem this]
        rfl
      have hx8 : s[k].toNat < 256 := UInt8.toNat_lt _
      have hidx : ∀ W : World, (Instr.index 9 (.string s) (.int .i64 (k : Int))).run Tryd.prog W = .ok (.int .u8 ((s[k].toNat : Nat) : Int)) W := fun W => by
        rw [run_index_string W 9 s .i64 (k : Int) Tryd.underlying9, dif_pos ⟨by omega, by omega⟩]
        rfl
      have hkI : (k : Int) < (s.size : Int) := by omega
      have HXB := Lib.hid hxe
      clear hxe
      generalize s[k].toNat = x at *
      by_cases hA : 48 ≤ x
      · by_cases hBx : x ≤ 57
        · by_cases hC : n < 16384
          · have exx : IntKind.u8.wrap ((x : Int) - 48) = (x : Int) - 48 := by rw [IntKind.wrap_u8]; omega
            have hrun2 : Rd.run s.data.toList (k + 1) = some ⟨l, 10 * n + ((x : Int) - 48), f, d + 1⟩ := by
              show (Rd.run s.data.toList k).bind _ = _
              rw [HRUN.out]
              show Rd.step ⟨l, n, f, d⟩ _ = _
              rw [HXB.out]
              simp only [Rd.step]; rw [if_pos ⟨hA, hBx, hC⟩]
            have HRUN2 := Lib.hid hrun2
            clear hrun2
            go_wp2
            go_roundw
            case rel => exact ⟨k + 1, _, _, (10 * n + ((x : Int) - 48)), f, (d + 1), by omega, rfl, by go_num, by go_num, by rfl, by go_num, HO, HRUN2, Lib.hid (digit_ok HOK.out hA hBx hC), HB⟩
            case measure => simp [intOf]; omega

          · have hrun2 : Rd.run s.data.toList (k + 1) = none := by
              show (Rd.run s.data.toList k).bind _ = _
              rw [HRUN.out]
              show Rd.step ⟨l, n, f, d⟩ _ = _
              rw [HXB.out]
              simp only [Rd.step]; rw [if_neg (by omega), if_neg (by omega), if_neg (by omega)]
            have hall := Rd.all_fail (k := k + 1) (by simp; omega) HNE.out hrun2
            have HALL := Lib.hid hall
            clear hrun2 hall
            go_wp2
            go_ret2
            unfold ReadPost
            rw [readOf_none HALL.out]
            exact ⟨rfl, HB.out⟩

        · have hrun2 : Rd.run s.data.toList (k + 1) = none := by
            show (Rd.run s.data.toList k).bind _ = _
            rw [HRUN.out]
            show Rd.step ⟨l, n, f, d⟩ _ = _
            rw [HXB.out]
            simp only [Rd.step]; rw [if_neg (by omega), if_neg (by omega), if_neg (by omega)]
          have hall := Rd.all_fail (k := k + 1) (by simp; omega) HNE.out hrun2
          have HALL := Lib.hid hall
          clear hrun2 hall
          go_wp2
          go_ret2
          unfold ReadPost
          rw [readOf_none HALL.out]
          exact ⟨rfl, HB.out⟩

      · by_cases hM : x = 45
        · subst hM
          by_cases hE : f < 0
          · by_cases hF : 0 < d
            · have hrun2 : Rd.run s.data.toList (k + 1) = some ⟨l, 0, n, 0⟩ := by
                show (Rd.run s.data.toList k).bind _ = _
                rw [HRUN.out]
                show Rd.step ⟨l, n, f, d⟩ _ = _
                rw [HXB.out]
                simp only [Rd.step]; rw [if_neg (by omega), if_pos ⟨by trivial, hE, hF⟩]
              have HRUN2 := Lib.hid hrun2
              clear hrun2
              go_wp2
              go_roundw
              case rel => exact ⟨k + 1, _, _, 0, n, 0, by omega, rfl, by go_num, by rfl, by rfl, by rfl, HO, HRUN2, Lib.hid (minus_ok HOK.out), HB⟩
              case measure => simp [intOf]; omega

            · have hrun2 : Rd.run s.data.toList (k + 1) = none := by
                show (Rd.run s.data.toList k).bind _ = _
                rw [HRUN.out]
                show Rd.step ⟨l, n, f, d⟩ _ = _
                rw [HXB.out]
                simp only [Rd.step]; rw [if_neg (by omega), if_neg (by omega), if_neg (by omega)]
              have hall := Rd.all_fail (k := k + 1) (by simp; omega) HNE.out hrun2
              have HALL := Lib.hid hall
              clear hrun2 hall
              go_wp2
              go_ret2
              unfold ReadPost
              rw [readOf_none HALL.out]
              exact ⟨rfl, HB.out⟩

          · have hrun2 : Rd.run s.data.toList (k + 1) = none := by
              show (Rd.run s.data.toList k).bind _ = _
              rw [HRUN.out]
              show Rd.step ⟨l, n, f, d⟩ _ = _
              rw [HXB.out]
              simp only [Rd.step]; rw [if_neg (by omega), if_neg (by omega), if_neg (by omega)]
            have hall := Rd.all_fail (k := k + 1) (by simp; omega) HNE.out hrun2
            have HALL := Lib.hid hall
            clear hrun2 hall
            go_wp2
            go_ret2
            unfold ReadPost
            rw [readOf_none HALL.out]
            exact ⟨rfl, HB.out⟩

        · by_cases hK : x = 44
          · subst hK
            by_cases hF : 0 < d
            · have hrun2 : Rd.run s.data.toList (k + 1) = some (Rd.push ⟨l, n, f, d⟩) := by
                show (Rd.run s.data.toList k).bind _ = _
                rw [HRUN.out]
                show Rd.step ⟨l, n, f, d⟩ _ = _
                rw [HXB.out]
                simp only [Rd.step]; rw [if_neg (by omega), if_neg (by omega), if_pos ⟨by trivial, hF⟩]
              have HRUN2 := Lib.hid hrun2
              have HOK2 := Lib.hid (Rd.push_ok HOK.out)
              clear hrun2
              by_cases hf : f < 0
              · have hpush : Rd.push ⟨l, n, f, d⟩ = ⟨l ++ [(n, n)], 0, -1, 0⟩ := by unfold Rd.push; simp only [if_pos hf]
                rw [hpush] at HRUN2 HOK2
                clear hpush
                go_upto_region 17 with (fail)
                go_wp2_with (at_builtin; refine wpList_append_own _ rfl (.tmp 88) (.tmp 92) 22 rfl w.heap.size 39 i0 (.agg #[.int .i64 0, .int .i64 0]) 2 16 Tryd.underlying22 hi hz0 hz1 hz2 rfl (by decide) _ l.length (spanCells l) rfl (HO.out.alloc _) ⟨wr.heap.size, 0, none⟩ 1 1 [Value.int .i64 n, Value.int .i64 n] rfl rfl (two_news wr n n) (by intro u hu; simp at hu; rcases hu with rfl | rfl <;> rfl) (by unfold maxLen; omega) (by omega) (by have := HB.out.size; simp; omega) ?_)
                intro v2 w2 hown2 hgrow2 _
                have hb2 : Below w.heap.size w w2 := Below.grown (HB.out.alloc HB.out.size _) hgrow2 (by have := HB.out.size; simp; omega) (fun g hg => (HO.out.lt g hg).1)
                have ho2 : w2.ownsRow w.heap.size 39 2 v2 (l ++ [(n, n)]).length (spanCells (l ++ [(n, n)])) := by
                  rw [List.length_append, spanCells_snoc]; exact hown2
                have HB2 := Lib.hid hb2
                have HO2 := Lib.hid ho2
                clear hb2 ho2 hown2 hgrow2
                go_wp2
                go_roundw
                case rel => exact ⟨k + 1, _, _, 0, -1, 0, by omega, rfl, by go_num, by rfl, by rfl, by rfl, HO2, HRUN2, HOK2, HB2⟩
                case measure => simp [intOf]; omega
              · have hpush : Rd.push ⟨l, n, f, d⟩ = ⟨l ++ [(f, n)], 0, -1, 0⟩ := by unfold Rd.push; simp only [if_neg hf]
                rw [hpush] at HRUN2 HOK2
                clear hpush
                go_upto_region 17 with (fail)
                go_wp2_with (at_builtin; refine wpList_append_own _ rfl (.tmp 88) (.tmp 92) 22 rfl w.heap.size 39 i0 (.agg #[.int .i64 0, .int .i64 0]) 2 16 Tryd.underlying22 hi hz0 hz1 hz2 rfl (by decide) _ l.length (spanCells l) rfl (HO.out.alloc _) ⟨wr.heap.size, 0, none⟩ 1 1 [Value.int .i64 f, Value.int .i64 n] rfl rfl (two_news wr f n) (by intro u hu; simp at hu; rcases hu with rfl | rfl <;> rfl) (by unfold maxLen; omega) (by omega) (by have := HB.out.size; simp; omega) ?_)
                intro v2 w2 hown2 hgrow2 _
                have hb2 : Below w.heap.size w w2 := Below.grown (HB.out.alloc HB.out.size _) hgrow2 (by have := HB.out.size; simp; omega) (fun g hg => (HO.out.lt g hg).1)
                have ho2 : w2.ownsRow w.heap.size 39 2 v2 (l ++ [(f, n)]).length (spanCells (l ++ [(f, n)])) := by
                  rw [List.length_append, spanCells_snoc]; exact hown2
                have HB2 := Lib.hid hb2
                have HO2 := Lib.hid ho2
                clear hb2 ho2 hown2 hgrow2
                go_wp2
                go_roundw
                case rel => exact ⟨k + 1, _, _, 0, -1, 0, by omega, rfl, by go_num, by rfl, by rfl, by rfl, HO2, HRUN2, HOK2, HB2⟩
                case measure => simp [intOf]; omega

            · have hrun2 : Rd.run s.data.toList (k + 1) = none := by
                show (Rd.run s.data.toList k).bind _ = _
                rw [HRUN.out]
                show Rd.step ⟨l, n, f, d⟩ _ = _
                rw [HXB.out]
                simp only [Rd.step]; rw [if_neg (by omega), if_neg (by omega), if_neg (by omega)]
              have hall := Rd.all_fail (k := k + 1) (by simp; omega) HNE.out hrun2
              have HALL := Lib.hid hall
              clear hrun2 hall
              go_wp2
              go_ret2
              unfold ReadPost
              rw [readOf_none HALL.out]
              exact ⟨rfl, HB.out⟩

          · have t45 : ((x : Int) == 45) = false := by rw [beq_eq_false_iff_ne]; omega
            have t44 : ((x : Int) == 44) = false := by rw [beq_eq_false_iff_ne]; omega
            have hrun2 : Rd.run s.data.toList (k + 1) = none := by
              show (Rd.run s.data.toList k).bind _ = _
              rw [HRUN.out]
              show Rd.step ⟨l, n, f, d⟩ _ = _
              rw [HXB.out]
              simp only [Rd.step]; rw [if_neg (by omega), if_neg (by omega), if_neg (by omega)]
            have hall := Rd.all_fail (k := k + 1) (by simp; omega) HNE.out hrun2
            have HALL := Lib.hid hall
            clear hrun2 hall
            go_wp2
            go_ret2
            unfold ReadPost
            rw [readOf_none HALL.out]
            exact ⟨rfl, HB.out⟩
    · by_cases hend : k = s.size
      · have hxe : (s.data.toList[k]?).map UInt8.toNat = none := by
          rw [List.getElem?_eq_none (by simp; omega)]; rfl
        have HXB := Lib.hid hxe
        have hkq : ((k : Int) == (s.size : Int)) = true := by rw [beq_iff_eq]; omega
        have hkI : ¬ (k : Int) < (s.size : Int) := by omega
        have hkI2 : (k : Int) ≤ (s.size : Int) := by omega
        clear hxe hend
        by_cases hF : 0 < d
        · have hrun2 : Rd.run s.data.toList (k + 1) = some (Rd.push ⟨l, n, f, d⟩) := by
            show (Rd.run s.data.toList k).bind _ = _
            rw [HRUN.out]
            show Rd.step ⟨l, n, f, d⟩ _ = _
            rw [HXB.out]
            simp only [Rd.step]; rw [if_pos hF]
          have HRUN2 := Lib.hid hrun2
          have HOK2 := Lib.hid (Rd.push_ok HOK.out)
          clear hrun2
          by_cases hf : f < 0
          · have hpush : Rd.push ⟨l, n, f, d⟩ = ⟨l ++ [(n, n)], 0, -1, 0⟩ := by unfold Rd.push; simp only [if_pos hf]
            rw [hpush] at HRUN2 HOK2
            clear hpush
            go_upto_region 17 with (fail)
            go_wp2_with (at_builtin; refine wpList_append_own _ rfl (.tmp 88) (.tmp 92) 22 rfl w.heap.size 39 i0 (.agg #[.int .i64 0, .int .i64 0]) 2 16 Tryd.underlying22 hi hz0 hz1 hz2 rfl (by decide) _ l.length (spanCells l) rfl (HO.out.alloc _) ⟨wr.heap.size, 0, none⟩ 1 1 [Value.int .i64 n, Value.int .i64 n] rfl rfl (two_news wr n n) (by intro u hu; simp at hu; rcases hu with rfl | rfl <;> rfl) (by unfold maxLen; omega) (by omega) (by have := HB.out.size; simp; omega) ?_)
            intro v2 w2 hown2 hgrow2 _
            have hb2 : Below w.heap.size w w2 := Below.grown (HB.out.alloc HB.out.size _) hgrow2 (by have := HB.out.size; simp; omega) (fun g hg => (HO.out.lt g hg).1)
            have ho2 : w2.ownsRow w.heap.size 39 2 v2 (l ++ [(n, n)]).length (spanCells (l ++ [(n, n)])) := by
              rw [List.length_append, spanCells_snoc]; exact hown2
            have HB2 := Lib.hid hb2
            have HO2 := Lib.hid ho2
            clear hb2 ho2 hown2 hgrow2
            go_wp2
            go_roundw
            case rel => exact ⟨k + 1, _, _, 0, -1, 0, by omega, rfl, by go_num, by rfl, by rfl, by rfl, HO2, HRUN2, HOK2, HB2⟩
            case measure => simp [intOf]; omega
          · have hpush : Rd.push ⟨l, n, f, d⟩ = ⟨l ++ [(f, n)], 0, -1, 0⟩ := by unfold Rd.push; simp only [if_neg hf]
            rw [hpush] at HRUN2 HOK2
            clear hpush
            go_upto_region 17 with (fail)
            go_wp2_with (at_builtin; refine wpList_append_own _ rfl (.tmp 88) (.tmp 92) 22 rfl w.heap.size 39 i0 (.agg #[.int .i64 0, .int .i64 0]) 2 16 Tryd.underlying22 hi hz0 hz1 hz2 rfl (by decide) _ l.length (spanCells l) rfl (HO.out.alloc _) ⟨wr.heap.size, 0, none⟩ 1 1 [Value.int .i64 f, Value.int .i64 n] rfl rfl (two_news wr f n) (by intro u hu; simp at hu; rcases hu with rfl | rfl <;> rfl) (by unfold maxLen; omega) (by omega) (by have := HB.out.size; simp; omega) ?_)
            intro v2 w2 hown2 hgrow2 _
            have hb2 : Below w.heap.size w w2 := Below.grown (HB.out.alloc HB.out.size _) hgrow2 (by have := HB.out.size; simp; omega) (fun g hg => (HO.out.lt g hg).1)
            have ho2 : w2.ownsRow w.heap.size 39 2 v2 (l ++ [(f, n)]).length (spanCells (l ++ [(f, n)])) := by
              rw [List.length_append, spanCells_snoc]; exact hown2
            have HB2 := Lib.hid hb2
            have HO2 := Lib.hid ho2
            clear hb2 ho2 hown2 hgrow2
            go_wp2
            go_roundw
            case rel => exact ⟨k + 1, _, _, 0, -1, 0, by omega, rfl, by go_num, by rfl, by rfl, by rfl, HO2, HRUN2, HOK2, HB2⟩
            case measure => simp [intOf]; omega

        · have hrun2 : Rd.run s.data.toList (k + 1) = none := by
            show (Rd.run s.data.toList k).bind _ = _
            rw [HRUN.out]
            show Rd.step ⟨l, n, f, d⟩ _ = _
            rw [HXB.out]
            simp only [Rd.step]; rw [if_neg hF]
          have hall := Rd.all_fail (k := k + 1) (by simp; omega) HNE.out hrun2
          have HALL := Lib.hid hall
          clear hrun2 hall
          go_wp2
          go_ret2
          unfold ReadPost
          rw [readOf_none HALL.out]
          exact ⟨rfl, HB.out⟩

      · obtain rfl : k = s.size + 1 := by omega
        have hrg := HOK.out.2.2.2.2.2.2
        have hsp : ∃ a cap, v = .slice a l.length cap ∧ Spans wr a cap l := spans_owned_r HO.out (by omega) (fun t ht => by have := hrg t ht; omega)
        obtain ⟨a, cap, rfl, hS⟩ := hsp
        have HS := Lib.hid hS
        have hall : Rd.all s.data.toList = some l := by
          unfold Rd.all
          rw [if_neg HNE.out, show s.data.toList.length + 1 = s.size + 1 from by simp, HRUN.out]
          rfl
        have HALL := Lib.hid hall
        clear hall hS hrg
        go_wp2_with fail
        refine (refMay_any a cap l wr HS.out).mono ?_
        rintro e w1 ⟨rfl, hb1⟩
        have HB1 := Lib.hid (HB.out.trans (hb1.mono HB.out.size))
        have HS1 := Lib.hid (HS.out.later hb1)
        clear hb1
        by_cases hv : Sp.Valid l
        · simp only [decide_eq_true hv]
          go_wp2_with fail
          refine (refText_any a cap l w1 (by omega) HS1.out).mono ?_
          rintro e w2 ⟨rfl, hb2⟩
          have HB2 := Lib.hid (HB1.out.trans (hb2.mono HB1.out.size))
          have HS2 := Lib.hid (HS1.out.later hb2)
          clear hb2
          by_cases ht : textS (Sp.mixS 0 l []) = s.data.toList
          · have hq : (⟨(textS (Sp.mixS 0 l [])).toArray⟩ : ByteArray) = s := by
              rw [ht]
            rw [hq]
            have hr := Lib.hid (readOf_some HALL.out hv ht)
            clear hq ht
            go_wp2
            go_ret2
            unfold ReadPost
            rw [hr.out]
            exact ⟨a, cap, rfl, HS2.out, HB2.out⟩
          · have hqb : ((⟨(textS (Sp.mixS 0 l [])).toArray⟩ : ByteArray).toList == s.toList) = false := by
              rw [beq_eq_false_iff_ne, Lib.toList_data, Lib.toList_data]
              intro h
              exact ht (by simpa using h)
            have hr := Lib.hid (readOf_not HALL.out (fun h => ht h.2))
            generalize (⟨(textS (Sp.mixS 0 l [])).toArray⟩ : ByteArray) = q at hqb
            clear ht
            go_wp2
            go_ret2
            unfold ReadPost
            rw [hr.out]
            exact ⟨rfl, HB2.out⟩
        · simp only [decide_eq_false hv]
          have hr := Lib.hid (readOf_not HALL.out (fun h => hv h.1))
          go_wp2
          go_ret2
          unfold ReadPost
          rw [hr.out]
          exact ⟨rfl, HB1.out⟩
set_option maxRecDepth 100000 in
set_option maxHeartbeats 4000000 in
open Classical in
theorem refRead_nil (s : ByteArray) (w : World) (h0 : s.data.toList = []) :
    Calls Tryd.prog 27 #[.string s] w (ReadPost s.data.toList w) := by
  have hse : s.toList.isEmpty = true := by
    rw [Lib.toList_data, h0]; rfl
  have hv : Sp.Valid [] := ⟨by simp, by simp⟩
  have hmx : Sp.mixS 0 [] [] = [] := Sp.Valid.unique (Sp.mixS_spec 0 [] []).1 hv (fun x => by rw [(Sp.mixS_spec 0 [] []).2 x]; simp [Sp.hasB, Sp.cnd])
  have htx : textS (Sp.mixS 0 [] []) = [] := by rw [hmx]; rfl
  have HR := Lib.hid (readOf_some (bs := s.data.toList) (l := []) (by rw [h0]; rfl) hv (by rw [htx, h0]))
  have hsz : s.size = 0 := by
    have : s.data.toList.length = 0 := by rw [h0]; rfl
    simpa using this
  have HS : Hid (Spans w none 0 []) := Lib.hid ⟨by simp, by simp, by simp, .inl rfl⟩
  have hq : (⟨(textS (Sp.mixS 0 [] [])).toArray⟩ : ByteArray) = s := by
    rw [htx, ← h0]
  have HM := Lib.hid (refMay_any none 0 [] w HS.out)
  have HT := Lib.hid (fun (w1 : World) (h1 : Spans w1 none 0 []) => refText_any none 0 [] w1 (by simp) h1)
  rw [hq] at HT
  clear hq htx hmx
  obtain rfl : s = ⟨#[]⟩ := by
    obtain ⟨d⟩ := s
    congr 1
    exact Array.toList_eq_nil_iff.1 h0
  go_enter Tryd.func27, Tryd.ntmps27
  go_wp2_with fail
  go_loopw [4, 8] (fun vl i wr => vl = .slice none 0 0 ∧ i = .int .i64 0 ∧ wr = w) (fun _ _ _ => 0)
  case atStart => exact ⟨rfl, rfl, rfl⟩
  case round =>
    obtain ⟨rfl, rfl, rfl⟩ := hrel
    go_wp2_with fail
    refine HM.out.mono ?_
    rintro e w1 ⟨rfl, hb1⟩
    have HB1 := Lib.hid hb1
    have HS1 := Lib.hid (HS.out.later hb1)
    clear hb1
    simp only [decide_eq_true hv]
    go_wp2_with fail
    refine (HT.out w1 HS1.out).mono ?_
    rintro e w2 ⟨rfl, hb2⟩
    have HB2 := Lib.hid (HB1.out.trans (hb2.mono HB1.out.size))
    have HS2 := Lib.hid (HS1.out.later hb2)
    clear hb2
    go_wp2
    go_ret2
    unfold ReadPost
    rw [HR.out]
    exact ⟨none, 0, rfl, HS2.out, HB2.out⟩

theorem refRead_any (s : ByteArray) (w : World) (hs : s.size ≤ 1000) :
    Calls Tryd.prog 27 #[.string s] w (ReadPost s.data.toList w) := by
  by_cases h : s.data.toList = []
  · exact refRead_nil s w h
  · exact refRead_some s w hs h
end Go.Proofs.YtlbmkgnfbkimaaaDoor
