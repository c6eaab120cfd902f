/- The contract of the law's Make: claims by numbers, a valid list. -/
import Derived.Test.YtchladbjhodkoaaOwRefGive
import Derived.Test.YtchladbjhodkoaaMake
namespace Go.Proofs.Ytchladbjhodkoaa
open Go.RowKit

/-- epochs that Make gives are small. -/
def SmallE (l : List Ow.C) : Prop := ∀ k o, Ow.own l k = some o → o.2 ≤ 6

theorem small_give {la l : List Ow.C} {s : List Sp.S} {n e : Int} (h : SmallE la) (he : e ≤ 6) (ht : Ow.Told (giveF la s n e) l 16384) : SmallE l := by
  intro k o ho
  have hr := Ow.own_range ht.1 ho
  rw [ht.2.2 k hr.1 hr.2.1] at ho
  unfold giveF at ho
  split at ho
  · cases ho; exact he
  · exact h k o ho

set_option maxRecDepth 100000 in
set_option maxHeartbeats 8000000 in
theorem makeC_any (a : Option Addr) (cap : Nat) (ns : List Int) (w : World) (hl : ns.length ≤ 1000) (hS : U16s w a cap ns) :
    Calls Try.prog 25 #[.slice a ns.length cap] w fun e w' => ∃ a' cap' l, e = .returned (.slice a' l.length cap') ∧ (Ow.VL l ∧ SmallE l) ∧ Cls w' a' cap' l ∧ Below w.heap.size w w' := by
  obtain ⟨h0, h1, h2, h3⟩ := hS
  have HS2 := Lib.hid h2
  have HS3 := Lib.hid h3
  clear h2 h3
  go_enter Try.func25, Try.ntmps25
  go_wp2
  go_loopw [3, 4] (fun v i wr => ∃ (n : Nat) (a' : Option Addr) (c' : Nat) (l : List Ow.C), n ≤ 84 ∧ i = .int .i64 n ∧ v = .slice a' l.length c' ∧ Hid (Ow.VL l ∧ SmallE l) ∧ Hid (Cls wr a' c' l) ∧ Hid (Below w.heap.size w wr)) (fun _ i _ => 84 - (intOf i).toNat)
  case atStart => exact ⟨0, none, 0, [], by omega, rfl, rfl, Lib.hid ⟨trivial, fun k o h => by simp [Ow.own] at h⟩, Lib.hid (cls_nil _), Lib.hid (Below.refl _ _)⟩
  case round =>
    obtain ⟨n, a', c', l, hn, rfl, rfl, HV, HC, HB⟩ := hrel
    have ew3 : IntKind.i64.wrap ((n : Int) + 3) = (n : Int) + 3 := IntWalk.i64_in _ (by omega)
    by_cases hlt : n + 3 < ns.length
    · by_cases h80 : n < 80
      · rcases HS3.out with hx | ⟨b, off, rfl, hb, hc⟩
        · subst hx; simp at hlt
        · have hbw : b < wr.heap.size := Nat.lt_of_lt_of_le hb HB.out.size
          have c0 := (HB.out.cell (p := ⟨b, off + n, none⟩) hb).trans (hc n (by omega))
          have c1 := (HB.out.cell (p := ⟨b, off + (n + 1), none⟩) hb).trans (hc (n + 1) (by omega))
          have c2 := (HB.out.cell (p := ⟨b, off + (n + 2), none⟩) hb).trans (hc (n + 2) (by omega))
          have c3 := (HB.out.cell (p := ⟨b, off + (n + 3), none⟩) hb).trans (hc (n + 3) hlt)
          have m0 := HS2.out _ (show ns.getD n 0 ∈ ns by simp [List.getD, show n < ns.length by omega])
          have m1 := HS2.out _ (show ns.getD (n + 1) 0 ∈ ns by simp [List.getD, show n + 1 < ns.length by omega])
          have m2 := HS2.out _ (show ns.getD (n + 2) 0 ∈ ns by simp [List.getD, show n + 2 < ns.length by omega])
          have m3 := HS2.out _ (show ns.getD (n + 3) 0 ∈ ns by simp [List.getD, hlt])
          generalize ns.getD n 0 = x0 at *
          generalize ns.getD (n + 1) 0 = x1 at *
          generalize ns.getD (n + 2) 0 = x2 at *
          generalize ns.getD (n + 3) 0 = x3 at *
          have hu : U16s wr (some ⟨b, off + n, none⟩) (cap - n) [x0, x1] := by
            refine ⟨by simp; omega, by omega, by simp; omega, .inr ⟨b, off + n, rfl, hbw, fun k hk => ?_⟩⟩
            simp only [List.length_cons, List.length_nil] at hk
            rcases (show k = 0 ∨ k = 1 by omega) with rfl | rfl
            · exact c0
            · rw [show off + n + 1 = off + (n + 1) by omega]; exact c1
          have HM := Lib.hid (fun w' (h : Below wr.heap.size wr w') => make_any (some ⟨b, off + n, none⟩) (cap - n) [x0, x1] w' (by simp) (hu.later h))
          have hml := mkS_len [x0, x1]
          simp only [List.length_cons, List.length_nil, Nat.zero_add, Nat.reduceAdd] at HM hml
          have hcn : ¬ cap = n := by omega
          obtain ⟨y2, hy2⟩ : ∃ y, x2.tmod 4 = y := ⟨_, rfl⟩
          obtain ⟨y3, hy3⟩ : ∃ y, x3.tmod 6 = y := ⟨_, rfl⟩
          have z2 : y2 = x2 % 4 := by rw [← hy2]; exact Int.tmod_eq_emod_of_nonneg m2.1
          have z3 : y3 = x3 % 6 := by rw [← hy3]; exact Int.tmod_eq_emod_of_nonneg m3.1
          have hk2 : 0 ≤ y2 ∧ y2 < 8 ∧ 1 ≤ 1 + y3 ∧ 1 + y3 ≤ 9007199254740992 := by omega
          have hsl : (mkS [x0, x1]).length ≤ 100000 := by omega
          generalize mkS [x0, x1] = sl at *
          have HG := Lib.hid (fun w' a2 c2 h1 h2 => refGive_any a' a2 c' c2 l sl y2 (1 + y3) w' hk2 HV.out.1 hsl h1 h2)
          have HE6 : Hid (1 + y3 ≤ 6) := Lib.hid (by omega)
          have e2 : IntKind.i64.wrap x2 = x2 := IntWalk.i64_in _ (by omega)
          have e3 : IntKind.i64.wrap x3 = x3 := IntWalk.i64_in _ (by omega)
          have e4 : IntKind.i64.wrap (1 + y3) = 1 + y3 := IntWalk.i64_in _ (by omega)
          have e5 : IntKind.i64.wrap ((n : Int) + 2) = (n : Int) + 2 := IntWalk.i64_in _ (by omega)
          have e6 : IntKind.i64.wrap ((n : Int) + 4) = (n : Int) + 4 := IntWalk.i64_in _ (by omega)
          have i0 : (0 : Int) ≤ (n : Int) := by omega
          have i2 : (0 : Int) ≤ (n : Int) + 2 := by omega
          have i3 : (0 : Int) ≤ (n : Int) + 3 := by omega
          have j2 : (n : Int) + 2 < (ns.length : Int) := by omega
          have j3 : (n : Int) + 3 < (ns.length : Int) := by omega
          have j4 : (n : Int) + 2 ≤ (cap : Int) := by omega
          have j5 : (n : Int) ≤ (n : Int) + 2 := by omega
          have t2 : ((n : Int) + 2).toNat = n + 2 := by omega
          have t3 : ((n : Int) + 3).toNat = n + 3 := by omega
          have h80' : (n : Int) < 80 := by omega
          clear hu hml hk2 hsl m0 m1 m2 m3 c0 c1 hc z2 z3
          go_upto_region 5 with (fail)
          go_region_held3 (fun w' => w'.cell? ⟨b, off + (n + 2), none⟩ = some (.int .u16 x2) ∧ w'.cell? ⟨b, off + (n + 3), none⟩ = some (.int .u16 x3))
            (first
              | go_keep
              | exact ⟨(HBB2.out.cell (p := ⟨b, off + (n + 2), none⟩) hbw).trans c2, (HBB2.out.cell (p := ⟨b, off + (n + 3), none⟩) hbw).trans c3⟩
              | exact ⟨(HBB1.out.cell (p := ⟨b, off + (n + 2), none⟩) hbw).trans c2, (HBB1.out.cell (p := ⟨b, off + (n + 3), none⟩) hbw).trans c3⟩)
            (first
              | (go_at_call 26; (with_reducible refine (HM.out _ ((Below.refl _ wr).drew)).mono ?_); rintro e w1 ⟨a1, cp1, rfl, hs1, hb1⟩; have HBB1 : Hid (Below wr.heap.size wr w1) := Lib.hid (((Below.refl _ wr).drew).trans (hb1.mono (Nat.le_refl _))); have HS1 := Lib.hid hs1; clear hs1 hb1)
              | (go_at_call 24; (with_reducible refine (HG.out _ _ _ (HC.out.later HBB1.out) HS1.out).mono ?_); rintro e w2 ⟨a9, cp9, l9, rfl, ht9, hc9, hb9⟩; have HBB2 : Hid (Below wr.heap.size wr w2) := Lib.hid (HBB1.out.trans (hb9.mono HBB1.out.size)); have HT9 := Lib.hid (And.intro ht9.1 (small_give HV.out.2 HE6.out ht9)); have HC9 := Lib.hid hc9; clear ht9 hc9 hb9))
          go_wp2
          go_roundw
          case rel => exact ⟨n + 4, a9, cp9, l9, by omega, by go_num, rfl, HT9, HC9, Lib.hid (HB.out.trans (HBB2.out.mono HB.out.size))⟩
          case measure => simp [intOf]; omega
      · have h80' : ¬ (n : Int) < 80 := by omega
        have j3 : (n : Int) + 3 < (ns.length : Int) := by omega
        go_wp2
        go_ret
        exact ⟨a', c', l, rfl, HV.out, HC.out, HB.out⟩
    · have j3 : ¬ (n : Int) + 3 < (ns.length : Int) := by omega
      go_wp2
      go_ret
      exact ⟨a', c', l, rfl, HV.out, HC.out, HB.out⟩
end Go.Proofs.Ytchladbjhodkoaa
