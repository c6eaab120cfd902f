/- strings.ContainsAny of a line's ends, at all texts. -/
import Derived.Test.YtcjbfgkmpoebgaaDoorRpCa
import Derived.Lib.OthersKept
namespace Go.Proofs.YtcjbfgkmpoebgaaDoor
open Go.RowKit Go.Shelf
attribute [local go_sem] Oper.semAt_some
set_option linter.unusedVariables false
set_option linter.unusedSimpArgs false

theorem plain_ix (t : List UInt8) : Rp.plainB t = decide (ixV t < 0) := by
  by_cases h : ∀ j, j < t.length → t.getD j 0 ≠ 13 ∧ t.getD j 0 ≠ 10
  · rw [ix_all h]
    have hp : Rp.plainB t = true := by
      unfold Rp.plainB
      rw [List.all_eq_true]
      intro c hc
      obtain ⟨j, hj, rfl⟩ := List.getElem_of_mem hc
      have := h j hj
      simp [List.getD, hj] at this
      simp [this.1, this.2]
    rw [hp]
    rfl
  · have hp : Rp.plainB t = false := by
      cases e : Rp.plainB t with
      | false => rfl
      | true =>
        exfalso
        apply h
        intro j hj
        unfold Rp.plainB at e
        rw [List.all_eq_true] at e
        have := e t[j] (List.getElem_mem hj)
        simpa [List.getD, hj] using this
    have hx : 0 ≤ ixV t := by
      unfold ixV
      split
      · rename_i hl
        exfalso
        apply h
        intro j hj
        unfold Rp.runL at hl
        have := List.takeWhile_prefix (l := t) (fun b : UInt8 => b != 13 && b != 10)
        have he := this.eq_of_length hl
        have hm : ∀ c ∈ t, (c != 13 && c != 10) = true := by
          have ha := List.all_takeWhile (p := fun b : UInt8 => b != 13 && b != 10) (l := t)
          rw [he, List.all_eq_true] at ha
          exact ha
        have := hm t[j] (List.getElem_mem hj)
        simpa [List.getD, hj] using this
      · exact Int.natCast_nonneg _
    rw [hp, decide_eq_false (by omega)]

set_option maxRecDepth 1000000 in
set_option maxHeartbeats 8000000 in
theorem is_long (t : List UInt8) (h8 : 8 < t.length) (hl : t.length ≤ 1000000) (w : World) :
    Calls Tryd.prog 46 #[.string ⟨t.toArray⟩, .string ⟨#[13, 10]⟩] w fun e W' => e = .returned (.int .i64 (ixV t)) ∧ Below w.heap.size w W' := by
  have hts : (⟨t.toArray⟩ : ByteArray).size = t.length := by show t.toArray.size = _; simp
  have hz := zero_of_info (P := Tryd.prog) (t := 91) (v := .agg (Array.replicate 256 (.bool false))) (n := 256) (by kernel_rfl)
  obtain ⟨hv98, hi98⟩ := hz
  have hM : Calls Tryd.prog 58 #[.string ⟨#[13, 10]⟩] w fun e w' => e = .returned (.tuple #[.agg (Lib.setCells [13, 10]), .bool true]) ∧ w' = w.alloc (.cells (Lib.setCells [13, 10]) 91) := Tryd.strings_makeASCIISet hv98 ⟨#[13, 10]⟩ w (by decide) (fun j x hj => by
    match j, hj with
    | 0, hj => simp at hj; subst hj; decide
    | 1, hj => simp at hj; subst hj; decide)
  have hsc : (storeCells ⟨w.heap.size + 1, 0, none⟩ (Lib.setCells [13, 10]).toList 0).run Tryd.prog ((w.alloc (.cells (Lib.setCells [13, 10]) 91)).alloc (.cells (Array.replicate 256 (.bool false)) 91)) = .ok () ((w.alloc (.cells (Lib.setCells [13, 10]) 91)).alloc (.cells (Lib.setCells [13, 10]) 91)) := by
    have := run_storeCells_new (P := Tryd.prog) (w.alloc (.cells (Lib.setCells [13, 10]) 91)) 91 (Array.replicate 256 (.bool false)) (Lib.setCells [13, 10]) (by rw [Lib.setCells_size]; exact hi98) (by rw [Lib.setCells_size, Array.size_replicate]) (Lib.setCells_one _)
    simpa using this
  have hsz := Lib.setCells_size [13, 10]
  have hcellAt : ∀ x : UInt8, ((w.alloc (.cells (Lib.setCells [13, 10]) 91)).alloc (.cells (Lib.setCells [13, 10]) 91)).cell? ⟨w.heap.size + 1, x.toNat, none⟩ = some (.bool ([13, 10].contains x)) := fun x => by
    rw [World.cell?_alloc_at _ _ _ _ (by simp), Lib.setCells_at]
  have HCA := Lib.hid hcellAt
  have h8I : (8 : Int) < (t.length : Int) := by omega
  have hlI : (t.length : Int) ≤ 1000000 := by omega
  have hsI : ((⟨t.toArray⟩ : ByteArray).size : Int) = (t.length : Int) := by rw [hts]
  obtain ⟨s, hs⟩ : ∃ s : ByteArray, s = ⟨t.toArray⟩ := ⟨_, rfl⟩
  rw [← hs] at hts hsI
  rw [← hs]
  have HGA : Hid (∀ (q : Nat) (h : q < t.length) (h2 : q < s.size), s[q]'h2 = t.getD q 0) := Lib.hid (fun q h h2 => by
    subst hs
    show t.toArray[q]'_ = t.getD q 0
    simp [List.getD, h])
  have HM := Lib.hid hM
  have HSC := Lib.hid hsc
  clear hcellAt hM hs
  go_enter Tryd.func46, Tryd.ntmps46
  go_wp2_with (first
    | (go_at_call 58; refine HM.out.mono ?_; rintro e w' ⟨rfl, hw⟩; rw [hw])
    | go_in)
  obtain ⟨W2, hW2⟩ : ∃ W2, (w.alloc (.cells (Lib.setCells [13, 10]) 91)).alloc (.cells (Lib.setCells [13, 10]) 91) = W2 := ⟨_, rfl⟩
  have HB2 : Hid (Below w.heap.size w W2) := Lib.hid (by rw [← hW2]; exact ((Below.refl _ w).alloc (Nat.le_refl _) _).alloc (by simp) _)
  have HCA2 : Hid (∀ x : UInt8, W2.cell? ⟨w.heap.size + 1, x.toNat, none⟩ = some (.bool ([13, 10].contains x))) := Lib.hid (by rw [← hW2]; exact HCA.out)
  rw [hW2]
  clear hW2 hw hsc HCA
  go_loopg [4, 8] t.length (fun g r i wx => ∃ q : Nat, q + g = t.length ∧ r = .int .i64 0 ∧ i = .int .i64 (q : Int) ∧ wx = W2 ∧ Hid (∀ j, j < q → t.getD j 0 ≠ 13 ∧ t.getD j 0 ≠ 10))
  case atStart => exact ⟨0, by omega, rfl, rfl, rfl, Lib.hid (fun j h => by omega)⟩
  case round =>
    obtain ⟨q, hqg, rfl, rfl, rfl, HP⟩ := hrel
    cases gk with
    | zero =>
      obtain rfl : q = t.length := by omega
      have HR : Hid (ixV t = -1) := Lib.hid (ix_all HP.out)
      clear hqg
      go_wp2
      go_ret
      exact ⟨by rw [HR.out]; rfl, HB2.out⟩
    | succ g =>
      have hlt : q < t.length := by omega
      obtain ⟨c, hc⟩ : ∃ c, t.getD q 0 = c := ⟨_, rfl⟩
      have hqs : q < s.size := by omega
      have hgq := HGA.out q hlt hqs
      rw [hc] at hgq
      have hset := HCA2.out c
      have hyb := UInt8.toNat_lt c
      have k0 : (0 : Int) ≤ (q : Int) := by omega
      have k1 : (q : Int) < (t.length : Int) := by omega
      have HC := Lib.hid hc
      clear hc
      by_cases hin : c = 13 ∨ c = 10
      · have HR : Hid (ixV t = q) := Lib.hid (ix_hit HP.out hlt (by rw [HC.out]; exact hin))
        have hcon : [13, 10].contains c = true := by rcases hin with rfl | rfl <;> rfl
        rw [hcon] at hset
        have HCC := Lib.hid (Tryd.asciiSet_contains (w.heap.size + 1) c true wr hset)
        clear hset hcon hin
        go_wp2_with (go_at_call 59; refine HCC.out.mono ?_; rintro e w' ⟨rfl, rfl⟩)
        go_ret
        exact ⟨by rw [HR.out]; rfl, HB2.out⟩
      · have h13 : c ≠ 13 := fun h => hin (.inl h)
        have h10 : c ≠ 10 := fun h => hin (.inr h)
        have hcon : [13, 10].contains c = false := by simp [h13, h10]
        rw [hcon] at hset
        have HCC := Lib.hid (Tryd.asciiSet_contains (w.heap.size + 1) c false wr hset)
        have HP2 : Hid (∀ j, j < q + 1 → t.getD j 0 ≠ 13 ∧ t.getD j 0 ≠ 10) := Lib.hid (fun j hj => by
          rcases Nat.lt_or_ge j q with h | h
          · exact HP.out j h
          · obtain rfl : j = q := by omega
            rw [HC.out]; exact ⟨h13, h10⟩)
        clear hset hcon hin h13 h10
        go_wp2_with (go_at_call 59; refine HCC.out.mono ?_; rintro e w' ⟨rfl, rfl⟩)
        go_roundg g
        case measure => omega
        case rel => exact ⟨q + 1, by omega, rfl, by go_num, rfl, HP2⟩

theorem below_iterAt {B : Nat} {a w : World} (h : Below B a w) {k : Nat} (hk : B ≤ k) (s : ByteArray) (p : Nat) : Below B a (w.iterAt k s p) :=
  h.trans ⟨rfl, rfl, rfl, by simp [World.iterAt], fun j hj => by
    simp only [World.iterAt]
    rw [Array.getElem?_setIfInBounds_ne (by omega)]⟩

theorem ib_list (x : UInt8) : Lib.indexByte [13, 10] x = (if x = 13 then 0 else if x = 10 then 1 else -1) := by
  unfold Lib.indexByte
  by_cases h1 : x = 13
  · subst h1; rfl
  · by_cases h2 : x = 10
    · subst h2; rfl
    · rw [if_neg h1, if_neg h2]
      have h3 : ¬ (13 : UInt8) = x := fun h => h1 h.symm
      have h4 : ¬ (10 : UInt8) = x := fun h => h2 h.symm
      have h5 : Lib.indexByte [10] x = -1 := by simp [Lib.indexByte, h4]
      simp [h3, h5]

theorem ir_near (c : UInt8) (h : c.toNat < 128) (w : World) : Calls Tryd.prog 56 #[.string ⟨#[13, 10]⟩, .int .i32 (c.toNat : Int)] w fun e w' => e = .returned (.int .i64 (if c = 13 then 0 else if c = 10 then 1 else -1)) ∧ w' = w := by
  have := Tryd.strings_IndexRune_ascii ⟨#[13, 10]⟩ (c.toNat : Int) w (by omega) (by omega)
  have e : (c.toNat : Int).toNat.toUInt8 = c := by simp
  rw [e] at this
  have e2 : Lib.indexByte (⟨#[13, 10]⟩ : ByteArray).data.toList c = _ := ib_list c
  rw [e2] at this
  exact this

set_option maxRecDepth 100000 in
set_option maxHeartbeats 8000000 in
theorem is_short (t : List UInt8) (h8 : t.length ≤ 8) (w : World) :
    Calls Tryd.prog 46 #[.string ⟨t.toArray⟩, .string ⟨#[13, 10]⟩] w fun e W' => e = .returned (.int .i64 (ixV t)) ∧ Below w.heap.size w W' := by
  have hts : (⟨t.toArray⟩ : ByteArray).size = t.length := by show t.toArray.size = _; simp
  have h8I : (t.length : Int) ≤ 8 := by omega
  have hsI : ((⟨t.toArray⟩ : ByteArray).size : Int) = (t.length : Int) := by rw [hts]
  obtain ⟨s, hs⟩ : ∃ s : ByteArray, s = ⟨t.toArray⟩ := ⟨_, rfl⟩
  rw [← hs] at hts hsI
  rw [← hs]
  have HGA : Hid (∀ (q : Nat) (h : q < t.length) (h2 : q < s.size), s[q]'h2 = t.getD q 0) := Lib.hid (fun q h h2 => by
    subst hs
    show t.toArray[q]'_ = t.getD q 0
    simp [List.getD, h])
  have HFA : Hid (∀ (q : Nat), q < t.length → 128 ≤ (t.getD q 0).toNat → Rp.Far ⟨(t.drop q).toArray⟩ (Go.Utf8.decode s q).1 (Go.Utf8.decode s q).2) := Lib.hid (fun q h hb => by
    have hd := Rp.decode_at s q (by omega) (by rw [hs, get_list t q h]; exact hb)
    have e : s.data.toList = t := by rw [hs]
    rw [e] at hd
    exact hd)
  clear hs
  go_enter Tryd.func46, Tryd.ntmps46
  go_wp2
  go_loopg [4, 9, 10] t.length (fun g r i c wx => ∃ q : Nat, q ≤ t.length ∧ g = t.length - q ∧ r = .int .i64 0 ∧ Hid (∀ j, j < q → t.getD j 0 ≠ 13 ∧ t.getD j 0 ≠ 10) ∧ Hid (wx.heap[w.heap.size]? = some (.stringIter s q)) ∧ Hid (Below w.heap.size w wx))
  case atStart => exact ⟨0, Nat.zero_le _, rfl, rfl, Lib.hid (fun j h => by omega), Lib.hid (World.iter_heap w s 0), Lib.hid ((Below.refl _ w).alloc (Nat.le_refl _) _)⟩
  case round =>
    obtain ⟨q, hq, hg, rfl, HP, HIT, HB⟩ := hrel
    by_cases hlt : q < t.length
    · obtain ⟨c, hc⟩ : ∃ c, t.getD q 0 = c := ⟨_, rfl⟩
      have hqs : q < s.size := by omega
      have hgq := HGA.out q hlt hqs
      rw [hc] at hgq
      have HC := Lib.hid hc
      by_cases h128 : c.toNat < 128
      · have hnx : ∀ ty, (Instr.next (.pointer (some ⟨w.heap.size, 0, none⟩)) true ty).run Tryd.prog wr = .ok (.tuple #[.bool true, .int .i64 q, .int .i32 (c.toNat : Int)]) (wr.iterAt w.heap.size s (q + 1)) := fun ty => by
          have := Lib.run_next_ascii_at (P := Tryd.prog) wr w.heap.size s q ty HIT.out hqs (by rw [hgq]; exact h128)
          rw [hgq] at this
          exact this
        have HB2 : Hid (Below w.heap.size w (wr.iterAt w.heap.size s (q + 1))) := Lib.hid (below_iterAt HB.out (Nat.le_refl _) s _)
        have HIT2 : Hid ((wr.iterAt w.heap.size s (q + 1)).heap[w.heap.size]? = some (.stringIter s (q + 1))) := Lib.hid (Lib.iterAt_heap wr w.heap.size s q (q + 1) HIT.out)
        have hir := ir_near c h128 (wr.iterAt w.heap.size s (q + 1))
        clear hc hgq
        by_cases h13 : c = 13
        · have HR : Hid (ixV t = q) := Lib.hid (ix_hit HP.out hlt (by rw [HC.out]; exact .inl h13))
          rw [if_pos h13] at hir
          have HIR := Lib.hid hir
          clear hir h13
          go_wp2_with (go_at_call 56; refine HIR.out.mono ?_; rintro e w' ⟨rfl, rfl⟩)
          go_ret
          exact ⟨by rw [HR.out]; rfl, HB2.out⟩
        · by_cases h10 : c = 10
          · have HR : Hid (ixV t = q) := Lib.hid (ix_hit HP.out hlt (by rw [HC.out]; exact .inr h10))
            rw [if_neg h13, if_pos h10] at hir
            have HIR := Lib.hid hir
            clear hir h13 h10
            go_wp2_with (go_at_call 56; refine HIR.out.mono ?_; rintro e w' ⟨rfl, rfl⟩)
            go_ret
            exact ⟨by rw [HR.out]; rfl, HB2.out⟩
          · rw [if_neg h13, if_neg h10] at hir
            have HIR := Lib.hid hir
            have HP2 : Hid (∀ j, j < q + 1 → t.getD j 0 ≠ 13 ∧ t.getD j 0 ≠ 10) := Lib.hid (fun j hj => by
              rcases Nat.lt_or_ge j q with h | h
              · exact HP.out j h
              · obtain rfl : j = q := by omega
                rw [HC.out]; exact ⟨h13, h10⟩)
            clear hir h13 h10
            go_wp2_with (go_at_call 56; refine HIR.out.mono ?_; rintro e w' ⟨rfl, rfl⟩)
            go_roundg (t.length - (q + 1))
            case measure => omega
            case rel => exact ⟨q + 1, by omega, rfl, rfl, HP2, HIT2, HB2⟩
      · have hnx : ∀ ty, (Instr.next (.pointer (some ⟨w.heap.size, 0, none⟩)) true ty).run Tryd.prog wr = _ := fun ty => Lib.run_next_any_at (P := Tryd.prog) wr w.heap.size s q ty HIT.out hqs
        have hfar := HFA.out q hlt (by rw [hc]; omega)
        obtain ⟨r, hr⟩ : ∃ r, (Go.Utf8.decode s q).1 = r := ⟨_, rfl⟩
        obtain ⟨wd2, hw⟩ : ∃ wd, (Go.Utf8.decode s q).2 = wd := ⟨_, rfl⟩
        rw [hr, hw] at hnx hfar
        obtain ⟨r0, r1, v0, v1, vh, ven⟩ := hfar
        have hsz : (⟨(t.drop q).toArray⟩ : ByteArray).size = t.length - q := by show (t.drop q).toArray.size = _; simp
        rw [hsz] at v1
        have HP2 : Hid (∀ j, j < q + wd2 → t.getD j 0 ≠ 13 ∧ t.getD j 0 ≠ 10) := Lib.hid (fun j hj => by
          rcases Nat.lt_or_ge j q with h | h
          · exact HP.out j h
          · have h2 := vh (j - q) (by omega)
            rw [get_list _ _ (by rw [List.length_drop]; omega)] at h2
            have e : (t.drop q).getD (j - q) 0 = t.getD j 0 := by simp [List.getD, show q + (j - q) = j by omega]
            rw [e] at h2
            constructor <;> intro h3 <;> rw [h3] at h2 <;> revert h2 <;> decide)
        have HB2 : Hid (Below w.heap.size w (wr.iterAt w.heap.size s (q + wd2))) := Lib.hid (below_iterAt HB.out (Nat.le_refl _) s _)
        have HIT2 : Hid ((wr.iterAt w.heap.size s (q + wd2)).heap[w.heap.size]? = some (.stringIter s (q + wd2))) := Lib.hid (Lib.iterAt_heap wr w.heap.size s q (q + wd2) HIT.out)
        have HIR := Lib.hid (ir_far (r : Int) (by omega) (by omega) (fun h => by
          obtain ⟨a1, a2, a3, _⟩ := ven (by omega)
          omega) (wr.iterAt w.heap.size s (q + wd2)))
        clear hc hgq hr hw vh ven hsz h128
        go_wp2_with (go_at_call 56; refine HIR.out.mono ?_; rintro e w' ⟨rfl, hb⟩)
        go_roundg (t.length - (q + wd2))
        case measure => omega
        case rel =>
          refine ⟨q + wd2, by omega, rfl, rfl, HP2, Lib.hid ?_, Lib.hid (HB2.out.trans (hb.mono HB2.out.size))⟩
          rw [hb.block _ (Array.getElem?_eq_some_iff.1 HIT2.out).1]
          exact HIT2.out
    · obtain rfl : q = t.length := by omega
      have HR : Hid (ixV t = -1) := Lib.hid (ix_all HP.out)
      have hnx := fun ty => Lib.run_next_end_at (P := Tryd.prog) wr w.heap.size s t.length ty HIT.out (by omega)
      clear hlt hq hg
      go_wp2
      go_ret
      exact ⟨by rw [HR.out]; rfl, HB.out⟩

theorem is_any (t : List UInt8) (hl : t.length ≤ 1000000) (w : World) :
    Calls Tryd.prog 46 #[.string ⟨t.toArray⟩, .string ⟨#[13, 10]⟩] w fun e W' => e = .returned (.int .i64 (ixV t)) ∧ Below w.heap.size w W' := by
  by_cases h8 : 8 < t.length
  · exact is_long t h8 hl w
  · exact is_short t (by omega) w

set_option maxRecDepth 100000 in
/-- strings.ContainsAny of a line's ends, at every text. -/
theorem ca_any (t : List UInt8) : CA t := by
  intro hl W
  have HI := Lib.hid (is_any t (by omega) W)
  have hp := plain_ix t
  obtain ⟨x, hx⟩ : ∃ x, ixV t = x := ⟨_, rfl⟩
  rw [hx] at HI hp
  rw [hp]
  clear hp hx
  go_enter Tryd.func35, Tryd.ntmps35
  go_wp2_with (go_at_call 46; refine HI.out.mono ?_; rintro e w' ⟨rfl, hb⟩)
  go_ret
  refine ⟨?_, hb⟩
  by_cases h : 0 ≤ x
  · rw [decide_eq_true h, decide_eq_false (by omega)]; rfl
  · rw [decide_eq_false h, decide_eq_true (by omega)]; rfl
end Go.Proofs.YtcjbfgkmpoebgaaDoor
