/- The contracts of claims.Owned and of the reference's Owned. -/
import Derived.Test.YtchladbjhodkoaaOwOf
import Derived.Test.YtchladbjhodkoaaCollect
import Derived.Deep.AppendLies
namespace Go.Proofs.Ytchladbjhodkoaa
open Go.RowKit Go.Shelf
attribute [local go_sem] Oper.semAt_some

/-- the stretches of a node's claims. -/
def ownedL (l : List Ow.C) (n : Int) : List Sp.S := (l.filter fun c => decide (c.n = n)).map fun c => (c.f, c.t)

theorem Sp.valid_tail' {s : Sp.S} {l : List Sp.S} (h : Sp.Valid (s :: l)) : Sp.Valid l := ⟨fun t ht => h.1 t (by simp [ht]), (List.pairwise_cons.1 h.2).2⟩

theorem ownedL_len (l : List Ow.C) (n : Int) : (ownedL l n).length ≤ l.length := by
  unfold ownedL
  rw [List.length_map]
  exact List.length_filter_le _ _

theorem ownedL_snoc {l : List Ow.C} {k : Nat} (hk : k < l.length) (n : Int) : ownedL (l.take (k + 1)) n = ownedL (l.take k) n ++ (if (l.getD k Ow.z).n = n then [((l.getD k Ow.z).f, (l.getD k Ow.z).t)] else []) := by
  rw [List.take_succ_eq_append_getElem hk]
  have e : l.getD k Ow.z = l[k] := by simp [List.getD, hk]
  rw [e]
  unfold ownedL
  rw [List.filter_append, List.map_append]
  congr 1
  by_cases h : l[k].n = n <;> simp [h]

theorem ownedL_ints {l : List Ow.C} (h : ∀ c ∈ l, Ow.FitC c) (n : Int) : ∀ s ∈ ownedL l n, -9223372036854775808 ≤ s.1 ∧ s.1 ≤ 9223372036854775807 ∧ -9223372036854775808 ≤ s.2 ∧ s.2 ≤ 9223372036854775807 := by
  intro s hs
  unfold ownedL at hs
  obtain ⟨c, hc, rfl⟩ := List.mem_map.1 hs
  have := h c (List.mem_filter.1 hc).1
  unfold Ow.FitC at this
  simp only
  omega

set_option maxRecDepth 100000 in
set_option maxHeartbeats 4000000 in
theorem owned_any (a : Option Addr) (cap : Nat) (l : List Ow.C) (n : Int) (w : World) (hl : l.length ≤ 50000) (hS : Cls w a cap l) :
    Calls Try.prog 18 #[.slice a l.length cap, .int .i64 n] w (Mixed 0 (ownedL l n) [] w) := by
  obtain ⟨i0, hi, hz0, hz1, hz2⟩ := info_parts infoSpan
  have HS := Lib.hid hS
  have hc1 := hS.1
  have hc2 := hS.2.1
  clear hS
  go_enter Try.func18, Try.ntmps18
  go_wp2
  go_loopw [5, 10] (fun v i wr => ∃ (k : Nat) (sv : Value), k ≤ l.length ∧ i = .int .i64 k ∧ sv = v ∧ Hid (Gathered w wr sv (ownedL (l.take k) n))) (fun _ i _ => l.length - (intOf i).toNat)
  case atStart => exact ⟨0, _, Nat.zero_le _, rfl, rfl, Lib.hid ⟨⟨rfl, .inl ⟨rfl, rfl⟩⟩, by simp [ownedL], Below.refl _ _⟩⟩
  case round =>
    obtain ⟨k, sv, hk, rfl, rfl, HG⟩ := hrel
    by_cases hlt : k < l.length
    · obtain ⟨b, off, rfl, hb, c1, c2, c3, c4⟩ := (HS.out.later HG.out.2.2).cells hlt
      have hsn := ownedL_snoc hlt n
      have hkl : (ownedL (l.take k) n).length ≤ 50000 := by have := ownedL_len (l.take k) n; rw [List.length_take] at this; omega
      have k0 : (0 : Int) ≤ (k : Int) := by omega
      have k1 : (k : Int) < (l.length : Int) := by omega
      generalize l.getD k Ow.z = c at c1 c2 c3 c4 hsn
      obtain ⟨f, t, m, e⟩ := c
      simp only at c1 c2 c3 c4 hsn
      have HSN := Lib.hid hsn
      have HO := Lib.hid HG.out.1
      have HB := Lib.hid HG.out.2.2
      have hsz := HG.out.2.2.size
      clear hsn
      by_cases hmn : m = n
      · have HT : Hid (ownedL (l.take (k + 1)) n = ownedL (l.take k) n ++ [(f, t)]) := Lib.hid (by rw [HSN.out, if_pos hmn])
        subst hmn
        go_wp2_with (at_builtin; refine wpList_append_own _ rfl (.tmp 18) (.tmp 24) 23 rfl w.heap.size 51 i0 (.agg #[.int .i64 0, .int .i64 0]) 2 16 Try.underlying23 hi hz0 hz1 hz2 rfl (by decide) _ _ _ rfl ((HO.out.alloc _).alloc _) ⟨wr.heap.size + 1, 0, none⟩ 1 1 [.int .i64 f, .int .i64 t] rfl rfl (pair_news _ _ (by simp) _ _ _) (by intro u hu; simp at hu; rcases hu with rfl | rfl <;> rfl) (by unfold maxLen; omega) (by omega) (by simp; omega) ?_)
        intro v' w1 hown1 hgrow hiff
        have hG := gathered_snoc HB.out HO.out (((Below.refl _ wr).alloc hsz _).alloc (by simp; omega) _) hown1 hgrow hiff
        have HG1 := Lib.hid hG
        clear hG hown1 hgrow hiff
        go_wp2
        go_roundw
        case rel => exact ⟨k + 1, _, by omega, by go_num, rfl, Lib.hid (by rw [HT.out]; exact HG1.out)⟩
        case measure => simp [intOf]; omega
      · have HT : Hid (ownedL (l.take (k + 1)) n = ownedL (l.take k) n) := Lib.hid (by rw [HSN.out, if_neg hmn, List.append_nil])
        have hmq : (m == n) = false := by rw [beq_eq_false_iff_ne]; exact hmn
        clear hmn
        go_wp2
        go_roundw
        case rel =>
          refine ⟨k + 1, _, by omega, by go_num, rfl, Lib.hid ?_⟩
          rw [HT.out]
          exact ⟨HO.out.alloc _, HG.out.2.1, HB.out.alloc hsz _⟩
        case measure => simp [intOf]; omega
    · have hall : l.take k = l := List.take_of_length_le (by omega)
      rw [hall] at HG
      have hol := ownedL_len l n
      obtain ⟨a', cap', rfl, hsp, -⟩ := spans_of_row HG.out.1 (by omega) (ownedL_ints HS.out.2.2.1 n)
      have HN := Lib.hid (norm_own a' cap' (ownedL l n) wr (by omega) hsp)
      have HB := Lib.hid HG.out.2.2
      clear HG hsp
      go_wp2_with fail
      refine HN.out.mono ?_
      rintro en w1 ⟨a9, c9, rfl, hs9, -, -, hb9⟩
      have HS9 := Lib.hid hs9
      have HB9 := Lib.hid (HB.out.trans (hb9.mono HB.out.size))
      clear hs9 hb9
      go_wp2
      go_ret
      exact ⟨a9, c9, rfl, HS9.out, HB9.out⟩

set_option maxRecDepth 100000 in
set_option maxHeartbeats 4000000 in
theorem refOwned_any (a : Option Addr) (cap : Nat) (l : List Ow.C) (n : Int) (w : World) (hl : l.length ≤ 50000) (hS : Cls w a cap l) :
    Calls Try.prog 19 #[.slice a l.length cap, .int .i64 n] w (Mixed 0 (ownedL l n) [] w) := by
  obtain ⟨i0, hi, hz0, hz1, hz2⟩ := info_parts infoSpan
  have HS := Lib.hid hS
  have hc1 := hS.1
  have hc2 := hS.2.1
  clear hS
  go_enter Try.func19, Try.ntmps19
  go_wp2
  go_loopw [5, 6] (fun v i wr => ∃ (k : Nat) (sv : Value), k ≤ l.length ∧ i = .int .i64 k ∧ sv = v ∧ Hid (Gathered w wr sv (ownedL (l.take k) n))) (fun _ i _ => l.length - (intOf i).toNat)
  case atStart => exact ⟨0, _, Nat.zero_le _, rfl, rfl, Lib.hid ⟨⟨rfl, .inl ⟨rfl, rfl⟩⟩, by simp [ownedL], Below.refl _ _⟩⟩
  case round =>
    obtain ⟨k, sv, hk, rfl, rfl, HG⟩ := hrel
    by_cases hlt : k < l.length
    · obtain ⟨b, off, rfl, hb, c1, c2, c3, c4⟩ := (HS.out.later HG.out.2.2).cells hlt
      have hsn := ownedL_snoc hlt n
      have hkl : (ownedL (l.take k) n).length ≤ 50000 := by have := ownedL_len (l.take k) n; rw [List.length_take] at this; omega
      have k0 : (0 : Int) ≤ (k : Int) := by omega
      have k1 : (k : Int) < (l.length : Int) := by omega
      generalize l.getD k Ow.z = c at c1 c2 c3 c4 hsn
      obtain ⟨f, t, m, e⟩ := c
      simp only at c1 c2 c3 c4 hsn
      have HSN := Lib.hid hsn
      have HO := Lib.hid HG.out.1
      have HB := Lib.hid HG.out.2.2
      have hsz := HG.out.2.2.size
      clear hsn
      by_cases hmn : m = n
      · have HT : Hid (ownedL (l.take (k + 1)) n = ownedL (l.take k) n ++ [(f, t)]) := Lib.hid (by rw [HSN.out, if_pos hmn])
        subst hmn
        obtain ⟨b', off', hbe, hbw, -⟩ := HS.out.cells hlt
        cases hbe
        have hne : some b ≠ sv.ownBlock := fun e => by have := (HO.out.lt b e.symm).1; omega
        go_upto_region 6 with (fail)
        go_region_held3 (fun w' => w'.cell? ⟨b, off + k * 4, none⟩ = some (.int .i64 f) ∧ w'.cell? ⟨b, off + k * 4 + 1, none⟩ = some (.int .i64 t))
          (first
            | go_keep
            | (go_split_ands
               refine ⟨?_, ?_⟩
               · (rw [hgrow.cell_far _ (by simp; omega) hne]; assumption)
               · (rw [hgrow.cell_far _ (by simp; omega) hne]; assumption)))
          ((refine step_append_lies _ (by rfl) _ _ _ (by rfl) w.heap.size 51 i0 _ 2 16 Try.underlying23 hi hz0 hz1 hz2 rfl (by omega) sv (ownedL (l.take k) m).length (flat2 (ownedL (l.take k) m)) (by rfl) ((HO.out.alloc _).drew) ⟨wr.heap.size, 0, none⟩ 1 1 [.int .i64 f, .int .i64 t] (by rfl) (by rfl) (World.news_of_block (cs := #[.int .i64 f, .int .i64 t]) (t := 51) (fr := (0, 0)) (heap_alloc_new wr _)) (by simp [Value.oneCell']) (by omega) (by unfold maxLen; omega) (by omega) (by simp; omega) (wr.heap.size + 1) (by simp) ?_; intro gg capg w2 hown hgrow hat hltg))
        have hG := gathered_snoc (wa := (wr.alloc (.cells #[.int .i64 f, .int .i64 t] 51)).drew) HB.out HO.out (((Below.refl _ wr).alloc hsz _).drew) hown hgrow (by simp)
        have HG1 := Lib.hid hG
        clear hG hown hgrow hat hltg
        go_wp2
        go_roundw
        case rel => exact ⟨k + 1, _, by omega, by go_num, rfl, Lib.hid (by rw [HT.out]; exact HG1.out)⟩
        case measure => simp [intOf]; omega
      · have HT : Hid (ownedL (l.take (k + 1)) n = ownedL (l.take k) n) := Lib.hid (by rw [HSN.out, if_neg hmn, List.append_nil])
        have hmq : (m == n) = false := by rw [beq_eq_false_iff_ne]; exact hmn
        clear hmn
        go_wp2
        go_roundw
        case rel => exact ⟨k + 1, _, by omega, by go_num, rfl, Lib.hid (by rw [HT.out]; exact HG.out)⟩
        case measure => simp [intOf]; omega
    · have hall : l.take k = l := List.take_of_length_le (by omega)
      rw [hall] at HG
      have hol := ownedL_len l n
      obtain ⟨a', cap', rfl, hsp, -⟩ := spans_of_row HG.out.1 (by omega) (ownedL_ints HS.out.2.2.1 n)
      have HN := Lib.hid (refNorm_any a' cap' (ownedL l n) wr (by omega) hsp)
      have HB := Lib.hid HG.out.2.2
      clear HG hsp
      go_wp2_with fail
      refine HN.out.mono ?_
      rintro en w1 ⟨a9, c9, rfl, hs9, hb9⟩
      have HS9 := Lib.hid hs9
      have HB9 := Lib.hid (HB.out.trans (hb9.mono HB.out.size))
      clear hs9 hb9
      go_wp2
      go_ret
      exact ⟨a9, c9, rfl, HS9.out, HB9.out⟩

theorem valid_len' : ∀ {l : List Sp.S} {s : Sp.S}, Sp.Valid (s :: l) → (l.length : Int) ≤ 16383 - s.2
  | [], s, h => by
    have := h.1 s (by simp)
    simp
    omega
  | t :: r, s, h => by
    have h1 := valid_len' (l := r) (s := t) (Sp.valid_tail' h)
    have h2 := (List.pairwise_cons.1 h.2).1 t (by simp)
    have h3 := h.1 t (by simp)
    simp only [List.length_cons]
    omega

theorem valid_len {l : List Sp.S} (h : Sp.Valid l) : l.length ≤ 16384 := by
  cases l with
  | nil => simp
  | cons s r =>
    have h1 := valid_len' h
    have h2 := h.1 s (by simp)
    simp only [List.length_cons]
    omega

theorem owned_short {l : List Ow.C} (_h : Ow.VL l) (n : Int) : (Sp.mixS 0 (ownedL l n) []).length ≤ 16384 := valid_len (Sp.mixS_spec 0 (ownedL l n) []).1
end Go.Proofs.Ytchladbjhodkoaa
