/- The contract of the reader's number. -/
import Derived.Test.YtcjbfgkmpoebgaaDoorRpNumberWalk
namespace Go.Proofs.YtcjbfgkmpoebgaaDoor
open Go.RowKit Go.Shelf

set_option maxRecDepth 100000 in
set_option maxHeartbeats 8000000 in
theorem number_any (S : Nat → Prop) (Pb : Nat) (bs : List UInt8) (lo hi : Int) (w : World) (h : Rst S Pb w bs) (hS : ¬ S Pb) (hSlt : ∀ k, S k → k < w.heap.size) (hlo : -9223372036854775808 ≤ lo) (hlo0 : lo ≤ 9223372036854775807) (hhi0 : -9223372036854775808 ≤ hi) (hhi : hi ≤ 9223372036854775807) (henv : Env w) :
    Calls Tryd.prog 39 #[.pointer (some ⟨Pb, 0, none⟩), .int .i64 lo, .int .i64 hi] w (NOut S Pb w (Rp.devP lo hi bs)) := by
  have HRST := Lib.hid h
  obtain ⟨a, cap, hbx, hbt⟩ := h
  have hPb : Pb < w.heap.size := (Array.getElem?_eq_some_iff.1 hbx).1
  have hl := hbt.1
  have hcap := hbt.2.1
  have hnear := near_any Pb bs.length cap a 20 w (Boxed.cell hbx) hl
  rw [show min bs.length 20 = (bs.take 20).length by rw [List.length_take]; omega] at hnear
  have HBT := Lib.hid hbt
  have HENV := Lib.hid henv
  have hlt := lead_take bs
  obtain ⟨nl, hnl⟩ : ∃ nl, (bs.take 20).length = nl := ⟨_, rfl⟩
  obtain ⟨dl, hdl⟩ : ∃ dl, ((bs.take 20).dropWhile fun c => Rp.numC.contains c).length = dl := ⟨_, rfl⟩
  obtain ⟨L, hL⟩ : ∃ L, Rp.lead bs = L := ⟨_, rfl⟩
  obtain ⟨sl, hsl⟩ : ∃ sl, L.length = sl := ⟨_, rfl⟩
  rw [hnl, hdl, hL] at hlt
  have hdle : dl ≤ nl := by rw [← hdl, ← hnl]; exact (List.dropWhile_sublist _).length_le
  have hsl2 : nl - dl = sl := by
    have := congrArg List.length hlt
    rw [List.length_take, hnl, hsl] at this
    omega
  have hnb : nl ≤ bs.length ∧ nl ≤ 20 := by rw [← hnl, List.length_take]; omega
  have hw1 : IntKind.i64.wrap ((nl : Int) - (dl : Int)) = (sl : Int) := by rw [show (nl : Int) - (dl : Int) = (sl : Int) by omega]; exact IntWalk.i64_in _ (by omega)
  have hs0 : (0 : Int) ≤ (sl : Int) := by omega
  have hs1 : (sl : Int) ≤ (cap : Int) := by omega
  have HCONV : Hid (∀ w2, Below w.heap.size w w2 → (convert 28 9 (.slice a sl cap)).run Tryd.prog w2 = .ok (.string ⟨L.toArray⟩) w2) := Lib.hid fun w2 hb => by
    have := (((hbt.later hb).to 20).to (nl - dl)).conv
    rwa [hlt, hsl] at this
  have HCC : Hid (∀ w2, Below w.heap.size w w2 → w2.cell? ⟨Pb, 0, none⟩ = some (.slice a bs.length cap)) := Lib.hid fun w2 hb => Boxed.cell ((hb.block Pb hPb).trans hbx)
  have hz0 : ((⟨L.toArray⟩ : ByteArray).toList == (⟨#[]⟩ : ByteArray).toList) = decide (L = []) := i64_str []
  have hz1 : ((⟨L.toArray⟩ : ByteArray).toList == (⟨#[45]⟩ : ByteArray).toList) = decide (L = [45]) := i64_str [45]
  have hsz : (⟨L.toArray⟩ : ByteArray).size = sl := by rw [← hsl]; show L.toArray.size = _; simp
  have HDEV : Hid (Rp.devP lo hi bs = if (L = [] ∨ (L = [45] ∧ lo < 0)) ∧ sl = bs.length then .err 6 else match Lib.atoiAll L with
    | .ok v => if Dig.dec v = L ∧ lo ≤ v ∧ v ≤ hi then (Rp.textP sl bs).map fun _ => v else .err 5
    | _ => .err 5) := Lib.hid (by unfold Rp.devP; rw [hL, hsl]; rfl)
  have HSZ := Lib.hid hsz
  rw [hnl] at hnear
  have HNEAR := Lib.hid hnear
  have hsl20 : sl ≤ 20 := by omega
  clear hnear hbt henv hlt hL hsl2 hdle hbx
  have HTRIM : Hid (∀ w1, Below w.heap.size w w1 → Calls Tryd.prog 51 #[.slice a nl cap, .string ⟨#[45, 48, 49, 50, 51, 52, 53, 54, 55, 56, 57]⟩] w1 fun e w' => (∃ b c, e = .returned (.slice b dl c)) ∧ Below w1.heap.size w1 w') := Lib.hid fun w1 hb => by
    have := trim_any S w1 a cap (bs.take 20) ((HBT.out.later hb).to 20)
    rwa [hnl, hdl] at this
  have hat : ∀ w2, Below w.heap.size w w2 → (∀ v, Lib.atoiAll L = .ok v → Calls Tryd.prog 52 #[.string ⟨L.toArray⟩] w2 fun e w3 => e = .returned (.tuple #[.int .i64 v, .nilIface]) ∧ Below w2.heap.size w2 w3) ∧
      ((∀ v, Lib.atoiAll L ≠ .ok v) → ∃ sat : Int, (-9223372036854775808 ≤ sat ∧ sat ≤ 9223372036854775807) ∧ (Lib.atoiAll L = .«syntax» → sat = 0) ∧ (Lib.atoiAll L = .range → sat = Lib.atoiSat L) ∧ Calls Tryd.prog 52 #[.string ⟨L.toArray⟩] w2 fun e w3 => ∃ te pe, e = .returned (.tuple #[.int .i64 sat, .iface te pe]) ∧ Below w2.heap.size w2 w3) := fun w2 hb => by
    have he := HENV.out.later hb
    refine ⟨fun v hv => ?_, fun hn => ?_⟩
    · refine (Tryd.strconv_Atoi_ok ⟨L.toArray⟩ (by rw [HSZ.out]; omega) v hv w2).mono ?_
      rintro e w3 ⟨rfl, hb3⟩
      refine ⟨rfl, ?_⟩
      rcases hb3 with rfl | ⟨t, rfl⟩
      · exact Below.refl _ _
      · exact Lib.bytesWorld_below w2 _ t
    · cases hat : Lib.atoiAll L with
      | ok v => exact (hn v hat).elim
      | «syntax» =>
        obtain ⟨te, pe, hev⟩ := he.syn
        refine ⟨0, by omega, fun _ => rfl, fun h => (by cases h), (Tryd.strconv_Atoi_syntax ⟨L.toArray⟩ (by rw [HSZ.out]; omega) hat _ w2 hev (.inr ⟨_, _, rfl⟩)).mono ?_⟩
        rintro e w3 ⟨N, rfl, -, -, hb3⟩
        exact ⟨_, _, rfl, hb3⟩
      | range =>
        obtain ⟨te, pe, hev⟩ := he.rng
        refine ⟨Lib.atoiSat L, Lib.atoiSat_bounds L, fun h => by (cases h), fun _ => rfl, (Tryd.strconv_Atoi_range ⟨L.toArray⟩ (by rw [HSZ.out]; omega) hat _ w2 hev (.inr ⟨_, _, rfl⟩)).mono ?_⟩
        rintro e w3 ⟨N, rfl, -, -, hb3⟩
        exact ⟨_, _, rfl, hb3⟩
  rw [HDEV.out]
  by_cases hm0 : L = []
  · subst hm0
    have hs00 : sl = 0 := by rw [← hsl]; rfl
    subst hs00
    have h0 := num_nil S Pb bs lo hi w a cap nl dl _ rfl hlo hlo0 hhi0 hhi HNEAR HTRIM HCONV HCC hw1 hs1 hl hcap hnb (Lib.hid fun w2 hb => by
      obtain ⟨sat, _, h2, _, h4⟩ := (hat w2 hb).2 (fun v h => by rw [atoi_none] at h; cases h)
      rw [h2 atoi_none] at h4
      exact h4)
    refine cast ?_ h0
    congr 1
    rw [atoi_none]
    by_cases he : (0 : Nat) = bs.length
    · rw [if_pos ⟨.inl rfl, he⟩]
      unfold moreP moreE
      rw [if_pos (by rw [← he]; rfl)]
    · rw [if_neg (fun h => he h.2)]
      unfold moreP moreE
      rw [if_neg (by simp; omega)]
  by_cases hm1 : L = [45]
  · subst hm1
    have hs00 : sl = 1 := by rw [← hsl]; rfl
    subst hs00
    have hAT : Hid (∀ w2, Below w.heap.size w w2 → Calls Tryd.prog 52 #[.string ⟨#[45]⟩] w2 fun e w3 => ∃ te pe, e = .returned (.tuple #[.int .i64 0, .iface te pe]) ∧ Below w2.heap.size w2 w3) := Lib.hid fun w2 hb => by
      obtain ⟨sat, _, h2, _, h4⟩ := (hat w2 hb).2 (fun v h => by rw [atoi_sign] at h; cases h)
      rw [h2 atoi_sign] at h4
      exact h4
    by_cases hlo9 : lo < 0
    · have h0 := num_sign S Pb bs lo hi w a cap nl dl _ rfl hlo9 hlo hlo0 hhi0 hhi HNEAR HTRIM HCONV HCC hw1 hs1 hl hcap hnb hAT
      refine cast ?_ h0
      congr 1
      rw [atoi_sign]
      by_cases he : (1 : Nat) = bs.length
      · rw [if_pos ⟨.inr ⟨rfl, hlo9⟩, he⟩]
        unfold moreP moreE
        rw [if_pos (by rw [← he]; rfl)]
      · rw [if_neg (fun h => he h.2)]
        unfold moreP moreE
        rw [if_neg (by simp; omega)]
    · have h0 := num_sign2 S Pb bs lo hi w a cap nl dl hlo9 hlo hlo0 hhi0 hhi HNEAR HTRIM HCONV HCC hw1 hs1 hl hcap hnb hAT
      refine cast ?_ h0
      congr 1
      rw [atoi_sign, if_neg (fun h => by rcases h.1 with h | h; (cases h); exact hlo9 h.2)]
  · rw [if_neg (fun h => by rcases h.1 with h | h; exact hm0 h; exact hm1 h.1)]
    by_cases hok : ∃ v, Lib.atoiAll L = .ok v
    · obtain ⟨v, hv⟩ := hok
      have hvb := Lib.atoiAll_bounds hv
      have hAT : Hid (∀ w2, Below w.heap.size w w2 → Calls Tryd.prog 52 #[.string ⟨L.toArray⟩] w2 fun e w3 => e = .returned (.tuple #[.int .i64 v, .nilIface]) ∧ Below w2.heap.size w2 w3) := Lib.hid fun w2 hb => (hat w2 hb).1 v hv
      have hIT : Hid (∀ w2, Below w.heap.size w w2 → Calls Tryd.prog 53 #[.int .i64 v] w2 fun e w3 => e = .returned (.string ⟨(Dig.dec v).toArray⟩) ∧ Below w2.heap.size w2 w3) := Lib.hid fun w2 hb => by
        have := Tryd.strconv_Itoa v hvb.1 hvb.2 w2 (HENV.out.later hb).tab
        rw [itoa_dec] at this
        refine this.mono ?_
        rintro e w4 ⟨rfl, k4, os4, rfl⟩
        exact ⟨rfl, Lib.below_grow w2.heap.size w2 (Nat.le_refl _) k4 os4⟩
      rw [hv]
      show Calls _ _ _ w (NOut S Pb w (if Dig.dec v = L ∧ lo ≤ v ∧ v ≤ hi then (Rp.textP sl bs).map fun _ => v else .err 5))
      by_cases h3 : Dig.dec v = L ∧ lo ≤ v ∧ v ≤ hi
      · rw [if_pos h3]
        exact num_ok S Pb bs lo hi w a cap nl dl L sl hsz hm0 hm1 v hvb h3.1 h3.2.1 h3.2.2 hlo hlo0 hhi0 hhi HNEAR HTRIM HCONV HCC hw1 hs1 hl hcap hnb hAT hIT
          (Lib.hid fun w4 hb => text_any S Pb bs sl w4 (HRST.out.keeps (T := fun k => k < w.heap.size) (Keeps.of_below hb fun k h _ => h) hSlt hPb) hS)
      · rw [if_neg h3]
        by_cases hd : Dig.dec v = L
        · by_cases h5 : v < lo
          · exact num_low S Pb bs lo hi w a cap nl dl L sl hsz hm0 hm1 v hvb hd h5 hlo hlo0 hhi0 hhi HNEAR HTRIM HCONV HCC hw1 hs1 hl hcap hnb hAT hIT
          · exact num_high S Pb bs lo hi w a cap nl dl L sl hsz hm0 hm1 v hvb hd (Int.not_lt.1 h5) (Int.not_le.1 fun h => h3 ⟨hd, Int.not_lt.1 h5, h⟩) hlo hlo0 hhi0 hhi HNEAR HTRIM HCONV HCC hw1 hs1 hl hcap hnb hAT hIT
        · exact num_other S Pb bs lo hi w a cap nl dl L sl hsz hm0 hm1 v hvb hd hlo hlo0 hhi0 hhi HNEAR HTRIM HCONV HCC hw1 hs1 hl hcap hnb hAT hIT
    · have hn : ∀ v, Lib.atoiAll L ≠ .ok v := fun v h => hok ⟨v, h⟩
      obtain ⟨sat, hsat, hsx⟩ : ∃ sat : Int, (-9223372036854775808 ≤ sat ∧ sat ≤ 9223372036854775807) ∧ ∀ w2, Below w.heap.size w w2 → Calls Tryd.prog 52 #[.string ⟨L.toArray⟩] w2 fun e w3 => ∃ te pe, e = .returned (.tuple #[.int .i64 sat, .iface te pe]) ∧ Below w2.heap.size w2 w3 := by
        cases hc : Lib.atoiAll L with
        | ok v => exact (hn v hc).elim
        | «syntax» => exact ⟨0, by omega, fun w2 hb => by
            obtain ⟨sat, _, h2, _, h4⟩ := (hat w2 hb).2 hn
            rw [h2 hc] at h4
            exact h4⟩
        | range => exact ⟨Lib.atoiSat L, Lib.atoiSat_bounds L, fun w2 hb => by
            obtain ⟨sat, _, _, h3, h4⟩ := (hat w2 hb).2 hn
            rw [h3 hc] at h4
            exact h4⟩
      have h0 := num_bad S Pb bs lo hi w a cap nl dl L sl hsz hm0 hm1 sat hsat hlo hlo0 hhi0 hhi HNEAR HTRIM HCONV HCC hw1 hs1 hl hcap hnb (Lib.hid hsx)
      refine cast ?_ h0
      congr 1
      cases hc : Lib.atoiAll L with
      | ok v => exact (hn v hc).elim
      | «syntax» => rfl
      | range => rfl
end Go.Proofs.YtcjbfgkmpoebgaaDoor
