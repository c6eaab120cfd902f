/- The walk of SpansTexts. -/
import Derived.Test.YtlbmkgnfbkimaaaDoorTextPlain
import Derived.Test.YtlbmkgnfbkimaaaDoorLaid
import Derived.Test.YtlbmkgnfbkimaaaDoorAwake
namespace Go.Proofs.YtlbmkgnfbkimaaaDoor
open Go.RowKit Go.Shelf
attribute [local go_sem] Oper.semAt_some

theorem readD_len {bs : List UInt8} {l : List Sp.S} (h : readD bs = some l) : l.length ≤ bs.length + 1 := by
  obtain ⟨hv, ht⟩ := Tx.readD_back h
  unfold readD at h
  split at h
  · simp at h; subst h; simp
  · unfold Rs.pieces at h
    obtain ⟨r, hr, hx⟩ := Tx.pieces_back _ _ _ h
    rw [List.nil_append] at hr
    subst hr
    have := splitL_len 44 bs
    rw [hx] at this
    simpa using this

/-- what Read hands back: the list, and whether. -/
theorem read_spans {w : World} {o : Option (List Sp.S)} {e : Ending} {W' : World} (h : ReadOut w o e W') (hl : ∀ l, o = some l → l.length ≤ 1000000 ∧ Sp.Valid l) :
    ∃ a cap, e = .returned (.tuple #[.slice a (o.getD []).length cap, .bool o.isSome]) ∧ Spans W' a cap (o.getD []) ∧ Below w.heap.size w W' := by
  obtain ⟨v, he, ho, hb⟩ := h
  have hv : Sp.Valid (o.getD []) ∧ (o.getD []).length ≤ 1000000 := by
    cases o with
    | none => exact ⟨⟨by simp, by simp⟩, by simp⟩
    | some l => exact ⟨(hl l rfl).2, (hl l rfl).1⟩
  obtain ⟨a, cap, rfl, hs⟩ := spans_owned ho hv.2 hv.1
  exact ⟨a, cap, he, hs, hb⟩

open Classical in
set_option maxRecDepth 100000 in
set_option maxHeartbeats 4000000 in
theorem spansTexts_walk (s : ByteArray) (w : World) (hs : s.size ≤ maxLen) (ht : Tab w) :
    Calls Tryd.prog 5 #[.string s] w fun e w' => e = .returned (.bool true) ∧ Below w.heap.size w w' := by
  unfold maxLen at hs
  by_cases h : 300 < s.size
  · go_enter Tryd.func5, Tryd.ntmps5
    go_wp2_with fail
    refine (awake_any _ ht).mono ?_
    rintro e w1 ⟨rfl, hb⟩
    have HB := Lib.hid hb
    clear hb
    go_wp2
    go_ret
    exact ⟨rfl, HB.out⟩
  · have hl : s.size ≤ 300 := by omega
    have HT := Lib.hid ht
    have hsl : s.data.toList.length = s.size := by simp
    have hr := Tx.read_same s.data.toList
    have hd : ∀ l, readD s.data.toList = some l → l.length ≤ 1000000 ∧ Sp.Valid l := fun l h => ⟨by have := readD_len h; omega, (Tx.readD_back h).1⟩
    have HR := Lib.hid hr
    have HD := Lib.hid hd
    clear ht hr hd
    go_enter Tryd.func5, Tryd.ntmps5
    go_wp2_with fail
    refine (callsIn_wide.1 (read_any s _ (by omega))).mono ?_
    rintro e w1 h1
    obtain ⟨a1, c1, rfl, hs1, hb⟩ := read_spans h1 HD.out
    have HB1 := Lib.hid hb
    have HS1 := Lib.hid hs1
    clear hb h1 hs1
    go_wp2_with fail
    refine (refRead_any s _ (by omega)).mono ?_
    rintro e w2 h2
    unfold ReadPost at h2
    rw [← HR.out] at h2
    cases hc : readD s.data.toList with
    | none =>
      rw [hc] at h2 HS1
      simp only at h2
      obtain ⟨rfl, hb⟩ := h2
      have HS2 := Lib.hid (HS1.out.later hb)
      have HB2 := Lib.hid (HB1.out.trans (hb.mono HB1.out.size))
      have HC := Lib.hid hc
      clear hb HB1 HS1 hc
      simp only [Option.getD_none, Option.isSome_none] at *
      go_wp2_with fail
      refine (refSame_any a1 none c1 0 [] [] _ HS2.out ⟨by simp, by simp, by simp, .inl rfl⟩).mono ?_
      rintro e w3 ⟨rfl, hb⟩
      have HB3 := Lib.hid (HB2.out.trans (hb.mono HB2.out.size))
      clear hb HB2
      go_wp2_with fail
      refine (awake_any _ (tab_later HT.out HB3.out)).mono ?_
      rintro e w4 ⟨rfl, hb⟩
      have HB4 := Lib.hid (HB3.out.trans (hb.mono HB3.out.size))
      clear hb HB3
      go_wp2
      go_ret
      exact ⟨rfl, HB4.out⟩
    | some l =>
      rw [hc] at h2 HS1
      simp only at h2
      obtain ⟨a2, c2, rfl, hs2, hb⟩ := h2
      have hll := (HD.out l hc).1
      have HS2 := Lib.hid (HS1.out.later hb)
      have HS3 := Lib.hid hs2
      have HB2 := Lib.hid (HB1.out.trans (hb.mono HB1.out.size))
      have HC := Lib.hid hc
      clear hb HB1 HS1 hc hs2
      simp only [Option.getD_some, Option.isSome_some] at *
      go_wp2_with fail
      refine (refSame_any a1 a2 c1 c2 l l _ HS2.out HS3.out).mono ?_
      rintro e w3 ⟨rfl, hb⟩
      have HB3 := Lib.hid (HB2.out.trans (hb.mono HB2.out.size))
      clear hb HB2
      go_wp2_with fail
      refine (awake_any _ (tab_later HT.out HB3.out)).mono ?_
      rintro e w4 ⟨rfl, hb⟩
      have HB4 := Lib.hid (HB3.out.trans (hb.mono HB3.out.size))
      clear hb HB3
      go_wp2
      go_ret
      exact ⟨rfl, HB4.out⟩
end Go.Proofs.YtlbmkgnfbkimaaaDoor
