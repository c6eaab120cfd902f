/- The contract of the law's Make: spans by numbers, two a span. -/
import Derived.Test.YtchladbjhodkoaaSpRising
import Derived.Test.YtchladbjhodkoaaCollect
import Derived.ChangeShapes
import Derived.IntWalk
namespace Go.Proofs.Ytchladbjhodkoaa
open Go.RowKit Go.Shelf
attribute [local go_sem] Oper.semAt_some

/-- a slice of uint16. -/
def U16s (w : World) (a : Option Addr) (cap : Nat) (ns : List Int) : Prop :=
  ns.length ≤ cap ∧ cap ≤ 9223372036854775807 ∧ (∀ n ∈ ns, 0 ≤ n ∧ n ≤ 65535) ∧ (ns = [] ∨ ∃ b off, a = some ⟨b, off, none⟩ ∧ b < w.heap.size ∧ ∀ k, k < ns.length → w.cell? ⟨b, off + k, none⟩ = some (.int .u16 (ns.getD k 0)))

theorem U16s.later {w w' : World} {a : Option Addr} {cap : Nat} {ns : List Int} (h : U16s w a cap ns) (hb : Below w.heap.size w w') : U16s w' a cap ns := by
  obtain ⟨h0, h1, h2, h3⟩ := h
  refine ⟨h0, h1, h2, ?_⟩
  rcases h3 with h3 | ⟨b, off, ha, hlt, hc⟩
  · exact .inl h3
  · exact .inr ⟨b, off, ha, Nat.lt_of_lt_of_le hlt hb.size, fun k hk => by rw [hb.cell (p := ⟨b, off + k, none⟩) hlt]; exact hc k hk⟩

theorem wf_u16' {z : Int} (h : (Lit.int .u16 z).wf = true) : 0 ≤ z ∧ z ≤ 65535 := by
  unfold Lit.wf at h
  simp only [Bool.and_eq_true, decide_eq_true_eq] at h
  exact h

/-- a law's argument of type []uint16, opened. -/
theorem open_u16s {H : Type} {enc : TypeId × Value → H} {w : World} {base : Nat} {spare : Nat → Bool} {held : Bool} {fuel : Nat} {a : Option Addr} {len cap : Nat} {x : DataW H × List MemPlace}
    (h : DataW.trod enc Try.prog w base spare held fuel 39 [.slice a len cap] = some x) : ∃ ns : List Int, len = ns.length ∧ U16s w a cap ns := by
  rcases ChangeShapes.open_ints Try.underlying39 Try.underlying40 (by kernel_rfl) h with ⟨hcs, _⟩ | ⟨x, l, c, zs, hcs, _, hl, hm, hz, _, hcell, hwz⟩
  · simp at hcs
    obtain ⟨rfl, rfl, rfl⟩ := hcs
    exact ⟨[], rfl, by simp, by simp, by simp, .inl rfl⟩
  · simp at hcs
    obtain ⟨rfl, rfl, rfl⟩ := hcs
    have hM : maxLen = 9223372036854775807 := by decide
    have hzl : len ≤ zs.length := by rw [hz]; split <;> omega
    have hlen : (zs.take len).length = len := by simp; omega
    refine ⟨zs.take len, hlen.symm, by omega, by omega, fun n hn => wf_u16' (hwz n (List.mem_of_mem_take hn)), ?_⟩
    rcases Nat.eq_zero_or_pos len with rfl | hpos
    · left; simp
    · right
      obtain ⟨b, off, spot⟩ := x
      have hc := hcell 0 (by omega)
      have hspot : spot = none := by simpa [Addr.add] using World.cell?_spot hc
      subst hspot
      have hb : b < w.heap.size := by
        rcases Nat.lt_or_ge b w.heap.size with h' | h'
        · exact h'
        · simp [Addr.add, World.cell?, Array.getElem?_eq_none h'] at hc
      refine ⟨b, off, rfl, hb, fun k hk => ?_⟩
      rw [hlen] at hk
      have h1 := hcell k (by omega)
      have a1 : (Addr.add ⟨b, off, none⟩ k) = ⟨b, off + k, none⟩ := by
        unfold Addr.add; split <;> simp_all
      rw [a1] at h1
      rw [h1]
      simp [List.getD, hk]

/-- so many spans. -/
def mkTo (ns : List Int) : Nat → List Sp.S
  | 0 => []
  | k + 1 => mkTo ns k ++ [(ns.getD (2 * k) 0 % 16384, min 16383 (ns.getD (2 * k) 0 % 16384 + ns.getD (2 * k + 1) 0 % 300))]

theorem mkTo_len (ns : List Int) : ∀ k, (mkTo ns k).length = k
  | 0 => rfl
  | k + 1 => by simp [mkTo, mkTo_len ns k]

/-- what Make gives. -/
def mkS (ns : List Int) : List Sp.S := mkTo ns (ns.length / 2)

theorem mkS_len (ns : List Int) : (mkS ns).length ≤ ns.length := by unfold mkS; rw [mkTo_len]; omega

theorem mkTo_ints {ns : List Int} (h : ∀ n ∈ ns, 0 ≤ n ∧ n ≤ 65535) : ∀ k, 2 * k ≤ ns.length → ∀ s ∈ mkTo ns k, -9223372036854775808 ≤ s.1 ∧ s.1 ≤ 9223372036854775807 ∧ -9223372036854775808 ≤ s.2 ∧ s.2 ≤ 9223372036854775807
  | 0, _, s, hs => by simp [mkTo] at hs
  | k + 1, hk, s, hs => by
    simp only [mkTo, List.mem_append, List.mem_singleton] at hs
    rcases hs with hs | rfl
    · exact mkTo_ints h k (by omega) s hs
    · simp only; omega

set_option maxRecDepth 100000 in
set_option maxHeartbeats 4000000 in
theorem make_some (b off cap : Nat) (ns : List Int) (w : World) (hl : ns.length ≤ 1000) (hint : ∀ n ∈ ns, 0 ≤ n ∧ n ≤ 65535) (hb : b < w.heap.size) (hc : ∀ k, k < ns.length → w.cell? ⟨b, off + k, none⟩ = some (.int .u16 (ns.getD k 0))) :
    Calls Try.prog 26 #[.slice (some ⟨b, off, none⟩) ns.length cap] w fun e w' => ∃ v, e = .returned v ∧ Gathered w w' v (mkS ns) := by
  have HC := Lib.hid hc
  have HI := Lib.hid hint
  clear hc hint
  obtain ⟨i0, hi, hz0, hz1, hz2⟩ := info_parts infoSpan
  go_enter Try.func26, Try.ntmps26
  go_wp2
  go_loopw [3, 4] (fun v i wr => ∃ (n k : Nat) (sv : Value), Hid (n = 2 * k) ∧ n ≤ ns.length ∧ i = .int .i64 n ∧ sv = v ∧ Gathered w wr sv (mkTo ns k)) (fun _ i _ => ns.length - (intOf i).toNat)
  case atStart => exact ⟨0, 0, _, Lib.hid rfl, Nat.zero_le _, rfl, rfl, ⟨rfl, .inl ⟨rfl, rfl⟩⟩, by simp [mkTo], Below.refl _ _⟩
  case round =>
    obtain ⟨n, k, sv, HNK, hn, rfl, rfl, hg⟩ := hrel
    have ew1 : IntKind.i64.wrap ((n : Int) + 1) = (n : Int) + 1 := IntWalk.i64_in _ (by omega)
    have ew1' : IntKind.i64.wrap ((n : Int) + 2) = (n : Int) + 2 := IntWalk.i64_in _ (by omega)
    have ew2 : 0 ≤ (n : Int) + 1 := by omega
    have ew3 : ((n : Int) + 1).toNat = n + 1 := by omega
    by_cases hlt : n + 1 < ns.length
    · have c1 := HC.out n (by omega)
      have c2 := HC.out (n + 1) hlt
      have m1 : ns.getD n 0 ∈ ns := by simp [List.getD, show n < ns.length by omega]
      have m2 : ns.getD (n + 1) 0 ∈ ns := by simp [List.getD, hlt]
      obtain ⟨i1, i2⟩ := HI.out _ m1
      obtain ⟨i3, i4⟩ := HI.out _ m2
      have hT : mkTo ns (k + 1) = mkTo ns k ++ [(ns.getD n 0 % 16384, min 16383 (ns.getD n 0 % 16384 + ns.getD (n + 1) 0 % 300))] := by rw [mkTo, ← HNK.out]
      have HT := Lib.hid hT
      have HLen := Lib.hid (show (mkTo ns k).length = k ∧ 2 * k ≤ ns.length from ⟨mkTo_len ns k, by have := HNK.out; omega⟩)
      clear m1 m2 hT
      generalize ns.getD n 0 = x at c1 i1 i2 HT
      generalize ns.getD (n + 1) 0 = y at c2 i3 i4 HT
      obtain ⟨hown, hnil, hB⟩ := hg
      have c1' := (hB.cell (p := ⟨b, off + n, none⟩) hb).trans c1
      have c2' := (hB.cell (p := ⟨b, off + (n + 1), none⟩) hb).trans c2
      have wx : IntKind.i64.wrap x = x := IntWalk.i64_in _ (by omega)
      have wy : IntKind.i64.wrap y = y := IntWalk.i64_in _ (by omega)
      have hsz := hB.size
      have nI : (n : Int) < (ns.length : Int) := by omega
      have nI2 : (n : Int) + 1 < (ns.length : Int) := by omega
      have HO := Lib.hid hown
      have HN := Lib.hid hnil
      have HB := Lib.hid hB
      clear hown hnil hB c1 c2
      go_wp2_with (at_builtin; refine wpList_append_own _ rfl (.tmp 19) (.tmp 32) 23 rfl w.heap.size 51 i0 (.agg #[.int .i64 0, .int .i64 0]) 2 16 Try.underlying23 hi hz0 hz1 hz2 rfl (by decide) _ _ _ rfl (HO.out.alloc _) ⟨wr.heap.size, 0, none⟩ 1 1 [.int .i64 (x % 16384), .int .i64 (min 16383 (x % 16384 + y % 300))] rfl rfl ?c1 ?c2 ?c3 ?c4 ?c5 ?_)
      case c1 => exact pair_news _ _ rfl _ _ _
      case c2 => intro u hu; simp at hu; rcases hu with rfl | rfl <;> rfl
      case c3 => have := HLen.out; unfold maxLen; simp; omega
      case c4 => have := HLen.out; omega
      case c5 => simp; omega
      intro v' w1 hown1 hgrow hiff
      have hG := gathered_snoc HB.out HO.out ((Below.refl _ wr).alloc hsz _) hown1 hgrow hiff
      have HG := Lib.hid hG
      clear hG hown1 hgrow hiff
      go_wp2
      go_roundw
      case rel => exact ⟨n + 2, k + 1, _, Lib.hid (by have := HNK.out; omega), by omega, by go_num, rfl, by rw [HT.out]; exact HG.out⟩
      case measure => simp [intOf]; omega
    · have HG := Lib.hid hg
      have hkk : mkS ns = mkTo ns k := by have := HNK.out; unfold mkS; congr 1; omega
      have HK := Lib.hid hkk
      have nI3 : ¬ ((n : Int) + 1 < (ns.length : Int)) := by omega
      clear hg hkk
      go_wp2
      go_ret
      exact ⟨_, rfl, by rw [HK.out]; exact HG.out⟩

set_option maxRecDepth 100000 in
theorem make_nil (a : Option Addr) (cap : Nat) (w : World) :
    Calls Try.prog 26 #[.slice a 0 cap] w fun e w' => e = .returned (.slice none 0 0) ∧ w' = w := by
  go_enter Try.func26, Try.ntmps26
  go_wp2
  go_loop [3, 4] (fun v i => v = .slice none 0 0 ∧ i = .int .i64 0) (fun _ _ => 0)
  case atStart => exact ⟨rfl, rfl⟩
  case round =>
    obtain ⟨rfl, rfl⟩ := hrel
    go_wp2
    go_ret
    exact ⟨rfl, rfl⟩

/-- Make: always the same list. -/
theorem make_any (a : Option Addr) (cap : Nat) (ns : List Int) (w : World) (hl : ns.length ≤ 1000) (hS : U16s w a cap ns) :
    Calls Try.prog 26 #[.slice a ns.length cap] w fun e w' => ∃ a' cap', e = .returned (.slice a' (mkS ns).length cap') ∧ Spans w' a' cap' (mkS ns) ∧ Below w.heap.size w w' := by
  obtain ⟨h0, h1, h2, h3⟩ := hS
  rcases h3 with rfl | ⟨b, off, rfl, hb, hc⟩
  · refine (make_nil a cap w).mono ?_
    rintro e w' ⟨rfl, rfl⟩
    exact ⟨none, 0, rfl, ⟨by simp [mkS, mkTo], by simp [mkS, mkTo], by simp [mkS, mkTo], .inl rfl⟩, Below.refl _ _⟩
  · refine (make_some b off cap ns w hl h2 hb hc).mono ?_
    rintro e w' ⟨v, rfl, hown, _, hB⟩
    have := mkS_len ns
    obtain ⟨a', cap', rfl, hsp, -⟩ := spans_of_row hown (by omega) (mkTo_ints h2 _ (by omega))
    exact ⟨a', cap', rfl, hsp, hB⟩
end Go.Proofs.Ytchladbjhodkoaa
