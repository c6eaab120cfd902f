/- claims.Owned, and what is told of an empty list's slice. -/
import Derived.Test.YtchladbjhodkoaaOwOwned
namespace Go.Proofs.Ytchladbjhodkoaa
open Go.RowKit

theorem row_none {w : World} {B n : Nat} {e : TypeId} {sz : Nat} {v : Value} {xs : List Value} (h : w.ownsRow B e sz v n xs) : ∀ m c, v = .slice none m c → c = 0 := by
  intro m c hv
  rcases h.2 with ⟨rfl, _⟩ | ⟨g, cap, cur, rfl, _⟩
  · cases hv; rfl
  · cases hv

set_option maxHeartbeats 1000000 in
/-- spans.Norm, and where its list lies. -/
theorem norm_where (a : Option Addr) (cap : Nat) (l : List Sp.S) (w : World) (hl : l.length ≤ 100000) (hS : Spans w a cap l) :
    Calls Try.prog 41 #[.slice a l.length cap] w fun e W' => ∃ a' cap', e = .returned (.slice a' (Sp.mixS 0 l []).length cap') ∧ Spans W' a' cap' (Sp.mixS 0 l []) ∧ (∀ x, a' = some x → w.heap.size ≤ x.block ∧ x.block < W'.heap.size) ∧ (a' = none → cap' = 0) ∧ Below w.heap.size w W' := by
  refine (callsIn_wide (n := 0)).1 ?_
  have hr := runs_any a cap l w (by omega) hS
  clear hS
  refine callsIn_of_wp Try.func41 rfl trivial ?_ rfl
  simp only [Try.ntmps41, List.size_toArray, List.length_cons, List.length_nil, Nat.reduceAdd, Nat.reduceSub, Array.replicate_succ, Array.replicate_zero, List.push_toArray, List.append_toArray, List.nil_append, List.cons_append]
  gi_wp2_with (refine ⟨trivial, rfl, ?_⟩; refine hr.mono ?_; rintro e w2 ⟨v, rfl, Bp, rfl, hB2, hseq⟩; have HB2 := Lib.hid hB2; have HSQ := Lib.hid hseq; clear hB2 hseq)
  have hc := collect_any 73 #[.pointer (some ⟨Bp, 0, none⟩)] (enters_of Try.func73 (by kernel_rfl) rfl) (fun k => w.heap.size ≤ k ∧ k < w2.heap.size) _ l.length w2 w2 (by omega)
    (HSQ.out (fun k => w.heap.size ≤ k ∧ k < w2.heap.size) (fun _ => False) (fun k h1 h2 => ⟨h1, h2⟩) (fun k h => h.2) (fun k h => h.elim)) (Below.refl _ _) (fun k h => h.2)
  gi_wp2_with (refine ⟨trivial, rfl, ?_⟩; refine hc.mono ?_; rintro e w3 ⟨v, ys, hS, rfl, hrow, hnil, hB⟩; have HR := Lib.hid (And.intro hS (And.intro hrow hB)); clear hS hrow hnil hB)
  go_ret
  obtain ⟨hS, hrow, hB⟩ := HR.out
  have hlen : ys.length = (Sp.bare ys).length := by simp
  have hm : (Sp.bare ys).length ≤ 300000 := by rw [hS]; exact mixS_len 0 l [] (by simpa using hl)
  rw [hlen] at hrow
  have hcap := row_none hrow
  obtain ⟨a', cap', rfl, hsp, hbl⟩ := spans_of_row hrow (by omega) (bare_ints ys)
  have hsz := HB2.out.size
  rw [hS] at hsp ⊢
  refine ⟨a', cap', rfl, hsp, fun x hx => ?_, fun h => (by subst h; exact hcap _ _ rfl), HB2.out.trans (hB.mono HB2.out.size)⟩
  subst hx
  have := hbl x.block rfl
  omega

set_option maxRecDepth 100000 in
set_option maxHeartbeats 4000000 in
theorem owned_where (a : Option Addr) (cap : Nat) (l : List Ow.C) (n : Int) (w : World) (hl : l.length ≤ 50000) (hS : Cls w a cap l) :
    Calls Try.prog 18 #[.slice a l.length cap, .int .i64 n] w (fun e w' => ∃ a' cap', e = .returned (.slice a' (Sp.mixS 0 (ownedL l n) []).length cap') ∧ Spans w' a' cap' (Sp.mixS 0 (ownedL l n) []) ∧ (a' = none → cap' = 0) ∧ Below w.heap.size w w') := by
  obtain ⟨i0, hi, hz0, hz1, hz2⟩ := info_parts infoSpan
  have HS := Lib.hid hS
  have hc1 := hS.1
  have hc2 := hS.2.1
  clear hS
  go_enter Try.func18, Try.ntmps18
  go_wp2
  go_loopw [5, 10] (fun v i wr => ∃ (k : Nat) (sv : Value), k ≤ l.length ∧ i = .int .i64 k ∧ sv = v ∧ Hid (Gathered w wr sv (ownedL (l.take k) n))) (fun _ i _ => l.length - (intOf i).toNat)
  case atStart => exact ⟨0, _, Nat.zero_le _, rfl, rfl, Lib.hid ⟨⟨rfl, .inl ⟨rfl, rfl⟩⟩, by simp [ownedL], Below.refl _ _⟩⟩
  case round =>
    obtain ⟨k, sv, hk, rfl, rfl, HG⟩ := hrel
    by_cases hlt : k < l.length
    · obtain ⟨b, off, rfl, hb, c1, c2, c3, c4⟩ := (HS.out.later HG.out.2.2).cells hlt
      have hsn := ownedL_snoc hlt n
      have hkl : (ownedL (l.take k) n).length ≤ 50000 := by have := ownedL_len (l.take k) n; rw [List.length_take] at this; omega
      have k0 : (0 : Int) ≤ (k : Int) := by omega
      have k1 : (k : Int) < (l.length : Int) := by omega
      generalize l.getD k Ow.z = c at c1 c2 c3 c4 hsn
      obtain ⟨f, t, m, e⟩ := c
      simp only at c1 c2 c3 c4 hsn
      have HSN := Lib.hid hsn
      have HO := Lib.hid HG.out.1
      have HB := Lib.hid HG.out.2.2
      have hsz := HG.out.2.2.size
      clear hsn
      by_cases hmn : m = n
      · have HT : Hid (ownedL (l.take (k + 1)) n = ownedL (l.take k) n ++ [(f, t)]) := Lib.hid (by rw [HSN.out, if_pos hmn])
        subst hmn
        go_wp2_with (at_builtin; refine wpList_append_own _ rfl (.tmp 18) (.tmp 24) 23 rfl w.heap.size 51 i0 (.agg #[.int .i64 0, .int .i64 0]) 2 16 Try.underlying23 hi hz0 hz1 hz2 rfl (by decide) _ _ _ rfl ((HO.out.alloc _).alloc _) ⟨wr.heap.size + 1, 0, none⟩ 1 1 [.int .i64 f, .int .i64 t] rfl rfl (pair_news _ _ (by simp) _ _ _) (by intro u hu; simp at hu; rcases hu with rfl | rfl <;> rfl) (by unfold maxLen; omega) (by omega) (by simp; omega) ?_)
        intro v' w1 hown1 hgrow hiff
        have hG := gathered_snoc HB.out HO.out (((Below.refl _ wr).alloc hsz _).alloc (by simp; omega) _) hown1 hgrow hiff
        have HG1 := Lib.hid hG
        clear hG hown1 hgrow hiff
        go_wp2
        go_roundw
        case rel => exact ⟨k + 1, _, by omega, by go_num, rfl, Lib.hid (by rw [HT.out]; exact HG1.out)⟩
        case measure => simp [intOf]; omega
      · have HT : Hid (ownedL (l.take (k + 1)) n = ownedL (l.take k) n) := Lib.hid (by rw [HSN.out, if_neg hmn, List.append_nil])
        have hmq : (m == n) = false := by rw [beq_eq_false_iff_ne]; exact hmn
        clear hmn
        go_wp2
        go_roundw
        case rel =>
          refine ⟨k + 1, _, by omega, by go_num, rfl, Lib.hid ?_⟩
          rw [HT.out]
          exact ⟨HO.out.alloc _, HG.out.2.1, HB.out.alloc hsz _⟩
        case measure => simp [intOf]; omega
    · have hall : l.take k = l := List.take_of_length_le (by omega)
      rw [hall] at HG
      have hol := ownedL_len l n
      obtain ⟨a', cap', rfl, hsp, -⟩ := spans_of_row HG.out.1 (by omega) (ownedL_ints HS.out.2.2.1 n)
      have HN := Lib.hid (norm_where a' cap' (ownedL l n) wr (by omega) hsp)
      have HB := Lib.hid HG.out.2.2
      clear HG hsp
      go_wp2_with fail
      refine HN.out.mono ?_
      rintro en w1 ⟨a9, c9, rfl, hs9, -, hz9, hb9⟩
      have HZ9 := Lib.hid hz9
      have HS9 := Lib.hid hs9
      have HB9 := Lib.hid (HB.out.trans (hb9.mono HB.out.size))
      clear hs9 hb9 hz9
      go_wp2
      go_ret
      exact ⟨a9, c9, rfl, HS9.out, HZ9.out, HB9.out⟩

end Go.Proofs.Ytchladbjhodkoaa
