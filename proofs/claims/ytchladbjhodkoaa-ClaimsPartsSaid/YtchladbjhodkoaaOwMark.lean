/- The reference's Mark at a list that there is not yet; its marks at claims. -/
import Derived.Test.YtchladbjhodkoaaSpMarks
import Derived.Test.YtchladbjhodkoaaOwStretch
import Derived.Test.YtchladbjhodkoaaOwRefPlain
import Derived.Laws.AppendOwnNone
namespace Go.Proofs.Ytchladbjhodkoaa
open Go.RowKit

set_option maxRecDepth 100000 in
set_option maxHeartbeats 1000000 in
theorem refMark_nil (n : Int) (w : World) (h0 : 0 ≤ n) (h1 : n ≤ 16384) :
    Calls Try.prog 46 #[.slice none 0 0, .int .i64 n] w (Marked [] n w) := by
  obtain ⟨i0, hi, hz0, hz1, hz2⟩ := info_parts Try.infoInt
  go_enter Try.func46, Try.ntmps46
  go_wp2
  go_loop [5] (fun i => i = .int .i64 0) (fun _ => 0)
  case atStart => rfl
  case round =>
    subst hrel
    have hO : (w.alloc (.cells #[] 3)).ownsRow w.heap.size 3 1 (.slice (some ⟨w.heap.size, 0, none⟩) 0 0) 0 [] := World.ownsRow_made w #[] 0 (Nat.le_refl _) (by decide) rfl
    have hnew := one_news (w.alloc (.cells #[] 3)) n
    rw [World.size_alloc] at hnew
    have HO0 := Lib.hid hO
    have HNW := Lib.hid hnew
    clear hO hnew
    go_wp2_with (first
      | (at_builtin; refine wpList_append_own_none rfl (.tmp 43) (.tmp 46) 35 rfl w.heap.size 3 i0 1 Try.underlying35 hi _ 0 [] rfl HO0.out rfl ?_)
      | (at_builtin; refine wpList_append_own _ rfl (.tmp 48) (.tmp 50) 35 rfl w.heap.size 3 i0 (.int .i64 0) 1 8 Try.underlying35 hi hz0 hz1 hz2 rfl (by decide) _ 0 [] rfl (HO0.out.alloc _) ⟨w.heap.size + 1, 0, none⟩ 1 1 [Value.int .i64 n] rfl rfl HNW.out (by intro u hu; simp at hu; subst hu; rfl) (by unfold maxLen; omega) (by omega) (by simp; omega) ?_
         intro v2 w2 hown2 hgrow2 _
         have HB2 := Lib.hid (Below.grown (((Below.refl _ w).alloc (Nat.le_refl _) (.cells #[] 3)).alloc (by simp) (.cells #[.int .i64 n] 3)) hgrow2 (by simp; omega) (fun g hg => (HO0.out.lt g hg).1))
         have HO3 : Hid (w2.ownsRow w.heap.size 3 1 v2 1 [Value.int .i64 n]) := Lib.hid (by simpa using hown2)
         clear hown2 hgrow2)
      | (at_builtin; refine wpList_append_own_none rfl (.tmp 52) (.tmp 55) 35 rfl w.heap.size 3 i0 1 Try.underlying35 hi _ 1 [Value.int .i64 n] rfl HO3.out rfl ?_))
    obtain ⟨g, cap3, hv, _, hI⟩ := ints_owned (l := [n]) HO3.out rfl (by simp) (by simp; omega)
    have HI := Lib.hid hI
    clear hI
    subst hv
    go_wp2
    go_ret
    have hm : Sp.mark [] n = [n] := by unfold Sp.mark; rw [if_pos ⟨h0, h1⟩]; rfl
    exact ⟨_, _, by rw [hm]; rfl, by rw [hm]; exact HI.out, HB2.out⟩

/-- ints, of which nil is told. -/
def IntsN (w : World) (a : Option Addr) (cap : Nat) (l : List Int) : Prop := Ints w a cap l ∧ (l = [] → a = none ∧ cap = 0)

theorem IntsN.later {w w' : World} {a : Option Addr} {cap : Nat} {l : List Int} (h : IntsN w a cap l) (hb : Below w.heap.size w w') : IntsN w' a cap l := ⟨h.1.later hb, h.2⟩

theorem ints_nil (w : World) : IntsN w none 0 [] := ⟨⟨by simp, by simp, .inl rfl⟩, fun _ => ⟨rfl, rfl⟩⟩

theorem mark_ne2 {n : Int} {l : List Int} (h0 : 0 ≤ n) (h1 : n ≤ 16384) : Sp.mark l n ≠ [] := fun h => by
  have : n ∈ Sp.mark l n := Sp.mark_mem.2 (.inl ⟨rfl, h0, h1⟩)
  rw [h] at this
  simp at this

theorem refMark_all (a : Option Addr) (cap : Nat) (l : List Int) (n : Int) (w : World) (h0 : 0 ≤ n) (h1 : n ≤ 16384) (hl : l.length ≤ 1000000) (h : IntsN w a cap l) (hs : l.Pairwise (· < ·)) :
    Calls Try.prog 46 #[.slice a l.length cap, .int .i64 n] w fun e w' => ∃ a' cap', e = .returned (.slice a' (Sp.mark l n).length cap') ∧ IntsN w' a' cap' (Sp.mark l n) ∧ Below w.heap.size w w' := by
  by_cases hn : l = []
  · subst hn
    obtain ⟨rfl, rfl⟩ := h.2 rfl
    refine (refMark_nil n w h0 h1).mono ?_
    rintro e w' ⟨a', cap', he, hI, hb⟩
    exact ⟨a', cap', he, ⟨hI, fun h => absurd h (mark_ne2 h0 h1)⟩, hb⟩
  · refine (refMark_ints a cap l n w hl h.1 hs hn).mono ?_
    rintro e w' ⟨a', cap', he, hI, hb⟩
    exact ⟨a', cap', he, ⟨hI, fun h => absurd h (mark_ne2 h0 h1)⟩, hb⟩

set_option maxRecDepth 100000 in
set_option maxHeartbeats 2000000 in
theorem refMarksC_any (am a : Option Addr) (cm cap : Nat) (M : List Int) (l : List Ow.C) (w : World) (hv : Ow.VL l) (hM : IntsN w am cm M) (hs : M.Pairwise (· < ·)) (hl : M.length + 2 * l.length ≤ 900000) (hS : Cls w a cap l) :
    Calls Try.prog 39 #[.slice am M.length cm, .slice a l.length cap] w fun e w' => ∃ a' cap', e = .returned (.slice a' (Ow.marksC M l).length cap') ∧ IntsN w' a' cap' (Ow.marksC M l) ∧ Below w.heap.size w w' := by
  have HS := Lib.hid hS
  have HV := Lib.hid hv
  have HM := Lib.hid hM
  have HSo := Lib.hid hs
  clear hS hv hM hs
  go_enter Try.func39, Try.ntmps39
  go_wp2
  go_loopw [0, 5] (fun m i wr => ∃ (k : Nat) (a' : Option Addr) (c' : Nat), k ≤ l.length ∧ i = .int .i64 k ∧ m = .slice a' (Ow.marksC M (l.take k)).length c' ∧ Hid (IntsN wr a' c' (Ow.marksC M (l.take k))) ∧ Hid (Below w.heap.size w wr)) (fun _ i _ => l.length - (intOf i).toNat)
  case atStart => exact ⟨0, am, cm, Nat.zero_le _, rfl, rfl, HM, Lib.hid (Below.refl _ _)⟩
  case round =>
    obtain ⟨k, a', c', hk, rfl, rfl, HI, HB⟩ := hrel
    by_cases hlt : k < l.length
    · obtain ⟨b, off, rfl, hb, q1, q2, _, _⟩ := (HS.out.later HB.out).cells hlt
      have hok := HV.out.okAt2 hlt
      have hsn := Ow.marksC_snoc M hlt
      have hml := Ow.marksC_len (l.take k) M
      have htk : (l.take k).length = k := by rw [List.length_take]; omega
      have HSO := Lib.hid (Ow.marksC_sorted (l.take k) HSo.out)
      have HML : Hid ((Ow.marksC M (l.take k)).length ≤ 950000) := Lib.hid (by omega)
      generalize l.getD k Ow.z = c at q1 q2 hok hsn
      unfold Ow.okC at hok
      unfold Ow.stepC at hsn
      have HSN := Lib.hid hsn
      clear hsn hml htk
      generalize Ow.marksC M (l.take k) = m at *
      obtain ⟨f, t, n, e⟩ := c
      simp only at q1 q2 hok HSN
      have ew : IntKind.i64.wrap (t + 1) = t + 1 := IntWalk.i64_in _ (by omega)
      have k0 : (0 : Int) ≤ (k : Int) := by omega
      have k1 : (k : Int) < (l.length : Int) := by omega
      have HC1 := Lib.hid (refMark_all a' c' m f wr (by omega) (by omega) (by have := HML.out; omega) HI.out HSO.out)
      have HC2 := Lib.hid (fun w' a2 c2 h => refMark_all a2 c2 (Sp.mark m f) (t + 1) w' (by omega) (by omega) (by have := HML.out; have := Sp.mark_len m f; omega) h (Sp.mark_sorted HSO.out))
      go_wp2_with fail
      refine HC1.out.mono ?_
      rintro en w1 ⟨a1, c1, rfl, hI, hb1⟩
      have q2' := (hb1.cell (p := ⟨b, off + k * 4 + 1, none⟩) hb).trans q2
      have HI1 := Lib.hid hI
      have HB1 := Lib.hid (HB.out.trans (hb1.mono HB.out.size))
      clear hI hb1 q1 q2
      go_wp2_with fail
      refine (HC2.out _ _ _ HI1.out).mono ?_
      rintro en w2 ⟨a2, c2, rfl, hI, hb2⟩
      have HI2 := Lib.hid hI
      have HB2 := Lib.hid (HB1.out.trans (hb2.mono HB1.out.size))
      clear hI hb2 q2'
      go_wp2
      go_roundw
      case rel => exact ⟨k + 1, a2, c2, by omega, by go_num, by rw [HSN.out], by rw [HSN.out]; exact HI2, HB2⟩
      case measure => simp [intOf]; omega
    · have hall : l.take k = l := List.take_of_length_le (by omega)
      rw [hall] at HI ⊢
      go_wp2
      go_ret
      exact ⟨a', c', rfl, HI.out, HB.out⟩
end Go.Proofs.Ytchladbjhodkoaa
