/- CmdNames: the walk. -/
import Derived.Test.YtibipalncknddaaCmBools
import Derived.Test.YtibipalncknddaaCmUpper
import Derived.Test.YtibipalncknddaaCmRefNames
namespace Go.Proofs.Ytibipalncknddaa
open Go.RowKit Go.Shelf

theorem str_end (t : List UInt8) : (⟨t.toArray⟩ : ByteArray) ++ ⟨#[90]⟩ = ⟨(t ++ [90]).toArray⟩ := by apply ByteArray.ext; simp

set_option maxRecDepth 100000 in
set_option maxHeartbeats 600000 in
theorem cmdNames_walk (which : Int) (a : Option Addr) (cap : Nat) (bs : List Bool) (w : World) (hw : 0 ≤ which ∧ which ≤ 255) (hl : bs.length ≤ maxLen) (hB : Bls w a cap bs) :
    Calls Try.prog 4 #[.int .u8 which, .slice a bs.length cap] w fun e w' => e = .returned (.bool true) ∧ Below w.heap.size w w' := by
  obtain ⟨w1, w2⟩ := hw
  obtain ⟨j, hj⟩ : ∃ j : Nat, which % 54 = (j : Int) := ⟨(which % 54).toNat, by omega⟩
  have hj2 : j < 54 := by omega
  have hnl := Cm.names_len
  have hns : ∀ t ∈ Cm.names, t.length ≤ 9 := Cm.names_short
  have hmem : Cm.names.getD j [] ∈ Cm.names := by
    rw [Cm.getD_eq (by omega)]
    exact List.getElem_mem _
  have hnj := hns _ hmem
  obtain ⟨hup, hz, hme⟩ := Cm.name_facts _ hmem
  have HJj := Lib.hid hj
  have HL := Lib.hid hnl
  have HB := Lib.hid hB
  have HUp := Lib.hid hup
  have hblI : (bs.length : Int) ≤ 9223372036854775807 := by unfold maxLen at hl; omega
  have hjT : (which % 54).toNat = j := by omega
  have hj0 : 0 ≤ which % 54 := by omega
  have hj1 : which % 54 < 54 := by omega
  have hfz := fun W => find_c (Cm.names.getD j [] ++ [90]) W (by rw [List.length_append, List.length_singleton]; omega)
  have hz2 : Cm.findS (Cm.names.getD j [] ++ [90]) = none := by simpa using hz
  unfold findV at hfz
  rw [hz2] at hfz
  have HFz := Lib.hid hfz
  have HF : Hid (∀ (l : List UInt8), l.length = (Cm.names.getD j []).length → Cm.upS l = Cm.names.getD j [] → ∃ s : Cm.Sp, s.nm = Cm.names.getD j [] ∧ ∀ W, Calls Try.prog 11 #[.string ⟨l.toArray⟩] W fun e W' => e = .returned (.tuple #[spV s, .bool true]) ∧ Below W.heap.size W W') := Lib.hid fun l hll hlu => by
    have hf : Cm.findS l = Cm.findS (Cm.names.getD j []) := Cm.find_up (by rw [hlu, hup])
    cases hf0 : Cm.findS (Cm.names.getD j []) with
    | none => rw [hf0] at hme; cases hme
    | some s =>
      refine ⟨s, by rw [hf0] at hme; simpa using hme, fun W => ?_⟩
      have := find_c l W (by omega)
      unfold findV at this
      rw [hf, hf0] at this
      exact this
  clear hB hfz hns hj hnl hup hz hz2 hme hmem
  obtain ⟨nm, hnm0⟩ : ∃ nm, Cm.names.getD j [] = nm := ⟨_, rfl⟩
  have HN0 := Lib.hid hnm0
  rw [hnm0] at HF HFz HUp hnj
  clear hnm0
  have hs : (⟨nm.toArray⟩ : ByteArray).size = nm.length := by simp [ByteArray.size]
  have hcv : ∀ W, (convert 9 35 (.string ⟨nm.toArray⟩)).run Try.prog W = .ok (.slice (some ⟨W.heap.size, 0, none⟩) nm.length (grownCap W nm.length 0 5)) (Lib.bytesWorld W 5 ⟨nm.toArray⟩) := fun W => by
    have := Lib.run_convert_string_bytes (P := Try.prog) W 9 35 5 ⟨nm.toArray⟩ Try.underlying9 Try.underlying35 Try.underlying5
    rwa [hs] at this
  clear hs
  go_enter Try.func4, Try.ntmps4
  go_wp2_with (first
    | (go_at_call 16; refine (names_c _).mono ?_; rintro e wa ⟨aa, ca, rfl, hwd, hba⟩; rw [HL.out]; have HBa := Lib.hid hba; obtain ⟨ba, oa, rfl, hlta, hca⟩ := hwd.get (by rw [HL.out]; omega); have qa := hca j (by rw [HL.out]; exact hj2); rw [HN0.out] at qa; have HQa := Lib.hid qa; have HWa := Lib.hid hwd; clear hba hwd hca qa)
    | (go_at_call 17; refine (refNames_any _).mono ?_; rintro e wb ⟨ab, cb, rfl, hwd2, hbb⟩; rw [HL.out]; have HBb := Lib.hid hbb; have HWb := Lib.hid hwd2; clear hbb hwd2)
    | (go_at_call 13; have ht := texts_any _ ab ca cb Cm.names Cm.names wb rfl (HWa.out.later HBb.out) HWb.out; rw [HL.out] at ht; refine ht.mono ?_; clear ht; rintro e wc ⟨he, hbc⟩; have he1 : e = .returned (.bool true) := (by rw [he]; simp); clear he; subst he1; have HBc := Lib.hid hbc; have qn := ((HBb.out.trans (hbc.mono HBb.out.size)).cell (p := ⟨ba, oa + j, none⟩) hlta).trans HQa.out; clear hbc))
  have hr := row8_new wc nm
  have hb := Lib.bytesWorld_below wc 5 ⟨nm.toArray⟩
  have hbw : Below w.heap.size w wc := (HBa.out.trans (HBb.out.mono HBa.out.size)).trans (HBc.out.mono (Nat.le_trans HBa.out.size HBb.out.size))
  have HR := Lib.hid hr
  have HBn := Lib.hid hb
  have HBw := Lib.hid hbw
  clear hr hb hbw qn
  generalize Lib.bytesWorld wc 5 ⟨nm.toArray⟩ = w3 at *
  generalize grownCap wc nm.length 0 5 = cp at *
  go_loopw [8] (fun i wr => ∃ (k : Nat) (l : List UInt8), k ≤ nm.length ∧ i = .int .i64 k ∧ l.length = nm.length ∧ Hid (Cm.upS l = nm) ∧ Hid (Row8 wr wc.heap.size l) ∧ Hid (Below wc.heap.size wc wr)) (fun i _ => nm.length - (intOf i).toNat)
  case atStart => exact ⟨0, nm, Nat.zero_le _, rfl, rfl, HUp, HR, HBn⟩
  case round =>
    obtain ⟨k, l, hk, rfl, hll, HLu, HRk, HBk⟩ := hrel
    have k0 : (0 : Int) ≤ (k : Int) := by omega
    by_cases hlt : k < nm.length
    · have k1 : (k : Int) < (nm.length : Int) := by omega
      by_cases hlb : k < bs.length
      · have k2 : (k : Int) < (bs.length : Int) := by omega
        obtain ⟨b', o', rfl, hbl, hbc⟩ := HB.out.2.2.resolve_left (by rintro rfl; simp at hlb)
        have cB := ((HBw.out.trans (HBk.out.mono HBw.out.size)).cell (p := ⟨b', o' + k, none⟩) hbl).trans (hbc k hlb)
        clear hbc
        generalize bs.getD k false = bb at *
        cases bb with
        | false =>
          go_wp2
          go_roundw
          case rel => exact ⟨k + 1, l, by omega, by go_num, hll, HLu, HRk, HBk⟩
          case measure => simp [intOf]; omega
        | true =>
          obtain ⟨c1, f1⟩ := HRk.out.2 k (by omega)
          have hlow := @Cm.low_fact (l.getD k 0)
          have hstep := fun (c : UInt8) h => @Cm.low_step l k (by omega) c h
          have hset := HRk.out.set k (by omega) (l.getD k 0 + 32)
          have hb2 : Below wc.heap.size wc (wr.setCell ⟨wc.heap.size, k, none⟩ (.int .u8 ((l.getD k 0 + 32).toNat : Int))) := HBk.out.setCell (p := ⟨wc.heap.size, k, none⟩) (Nat.le_refl _) _
          have HLow := Lib.hid hlow
          have HStep := Lib.hid hstep
          have HSet := Lib.hid hset
          have HB2 := Lib.hid hb2
          have hx255 : ((l.getD k 0).toNat : Int) ≤ 255 := by have := (l.getD k 0).toNat_lt; omega
          have hx0 : (0 : Int) ≤ ((l.getD k 0).toNat : Int) := by omega
          have hlset : ∀ c, (l.set k c).length = nm.length := fun c => by rw [List.length_set]; exact hll
          have HLs := Lib.hid hlset
          clear hlow hstep hset hb2 hlset
          generalize l.getD k 0 = cc at *
          by_cases h65 : 65 ≤ (cc.toNat : Int)
          · by_cases h90 : (cc.toNat : Int) ≤ 90
            · obtain ⟨q1, q2⟩ := HLow.out h65 h90
              have HU2 : Hid (Cm.upS (l.set k (cc + 32)) = nm) := Lib.hid (by rw [HStep.out _ q1]; exact HLu.out)
              rw [q2] at HSet HB2
              clear q1 q2
              generalize (cc.toNat : Int) = x at *
              go_wp2
              go_roundw
              case rel => exact ⟨k + 1, _, by omega, by go_num, HLs.out _, HU2, HSet, HB2⟩
              case measure => simp [intOf]; omega
            · have h90' : 90 < (cc.toNat : Int) := by omega
              clear h90
              generalize (cc.toNat : Int) = x at *
              go_wp2
              go_roundw
              case rel => exact ⟨k + 1, l, by omega, by go_num, hll, HLu, HRk, HBk⟩
              case measure => simp [intOf]; omega
          · have h65' : (cc.toNat : Int) < 65 := by omega
            clear h65
            generalize (cc.toNat : Int) = x at *
            go_wp2
            go_roundw
            case rel => exact ⟨k + 1, l, by omega, by go_num, hll, HLu, HRk, HBk⟩
            case measure => simp [intOf]; omega
      · have k2 : (bs.length : Int) ≤ (k : Int) := by omega
        clear hlb
        have hcb := HRk.out.conv cp
        rw [hll] at hcb
        obtain ⟨sp, hsn, hfd⟩ := HF.out l hll HLu.out
        have HFd := Lib.hid hfd
        clear hfd
        obtain ⟨snm, least, most, first, last, step, wb⟩ := sp
        simp only at hsn
        subst hsn
        have hcat := str_end snm
        go_wp2_with (go_at_call 11; refine (HFd.out _).mono ?_; rintro e w5 ⟨rfl, hb5⟩; revert hb5)
        intro hb5
        have h1 := HBw.out.trans (HBk.out.mono HBw.out.size)
        have h2 := h1.trans (hb5.mono h1.size)
        have h3 := h2.alloc h2.size (.cells #[.string ⟨snm.toArray⟩, .int .i64 least, .int .i64 most, .int .i64 first, .int .i64 last, .int .i64 step, .bool wb] 26)
        have hs3 : SpBox (w5.alloc (.cells #[.string ⟨snm.toArray⟩, .int .i64 least, .int .i64 most, .int .i64 first, .int .i64 last, .int .i64 step, .bool wb] 26)) w5.heap.size ⟨snm, least, most, first, last, step, wb⟩ := World.alloc_heap_new w5 _
        have c0 := hs3.at.1
        simp only at c0
        have H3 := Lib.hid h3
        have HC0 := Lib.hid c0
        clear hb5 h1 h2 h3 hs3 c0 hcb
        simp only [spV]
        go_wp2_with (go_at_call 11; refine (HFz.out _).mono ?_; rintro e w6 ⟨rfl, hb6⟩; revert hb6)
        intro hb6
        have c0 := (hb6.cell (p := ⟨w5.heap.size, 0, none⟩) (by simp)).trans HC0.out
        have h4' := H3.out.trans (hb6.mono (by simpa using H3.out.size))
        have h4 := h4'.alloc h4'.size (.cells #[.string ⟨#[]⟩, .int .i64 0, .int .i64 0, .int .i64 0, .int .i64 0, .int .i64 0, .bool false] 26)
        have H4 := Lib.hid h4
        have hlt6 : w5.heap.size < w6.heap.size := by have := hb6.size; simp at this; omega
        clear hb6 h4 h4' hcat
        simp only [spV, zeroSp]
        go_wp2_with (go_at_call 8; refine (awake_any _).mono ?_; rintro e w7 ⟨rfl, hb7⟩; have HB7 := Lib.hid hb7; clear hb7)
        go_ret
        exact ⟨rfl, H4.out.trans (HB7.out.mono (by simpa using H4.out.size))⟩
    · obtain rfl : k = nm.length := by omega
      have hcb := HRk.out.conv cp
      rw [hll] at hcb
      obtain ⟨sp, hsn, hfd⟩ := HF.out l hll HLu.out
      have HFd := Lib.hid hfd
      clear hfd
      obtain ⟨snm, least, most, first, last, step, wb⟩ := sp
      simp only at hsn
      subst hsn
      have hcat := str_end snm
      go_wp2_with (go_at_call 11; refine (HFd.out _).mono ?_; rintro e w5 ⟨rfl, hb5⟩; revert hb5)
      intro hb5
      have h1 := HBw.out.trans (HBk.out.mono HBw.out.size)
      have h2 := h1.trans (hb5.mono h1.size)
      have h3 := h2.alloc h2.size (.cells #[.string ⟨snm.toArray⟩, .int .i64 least, .int .i64 most, .int .i64 first, .int .i64 last, .int .i64 step, .bool wb] 26)
      have hs3 : SpBox (w5.alloc (.cells #[.string ⟨snm.toArray⟩, .int .i64 least, .int .i64 most, .int .i64 first, .int .i64 last, .int .i64 step, .bool wb] 26)) w5.heap.size ⟨snm, least, most, first, last, step, wb⟩ := World.alloc_heap_new w5 _
      have c0 := hs3.at.1
      simp only at c0
      have H3 := Lib.hid h3
      have HC0 := Lib.hid c0
      clear hb5 h1 h2 h3 hs3 c0 hcb
      simp only [spV]
      go_wp2_with (go_at_call 11; refine (HFz.out _).mono ?_; rintro e w6 ⟨rfl, hb6⟩; revert hb6)
      intro hb6
      have c0 := (hb6.cell (p := ⟨w5.heap.size, 0, none⟩) (by simp)).trans HC0.out
      have h4' := H3.out.trans (hb6.mono (by simpa using H3.out.size))
      have h4 := h4'.alloc h4'.size (.cells #[.string ⟨#[]⟩, .int .i64 0, .int .i64 0, .int .i64 0, .int .i64 0, .int .i64 0, .bool false] 26)
      have H4 := Lib.hid h4
      have hlt6 : w5.heap.size < w6.heap.size := by have := hb6.size; simp at this; omega
      clear hb6 h4 h4' hcat
      simp only [spV, zeroSp]
      go_wp2_with (go_at_call 8; refine (awake_any _).mono ?_; rintro e w7 ⟨rfl, hb7⟩; have HB7 := Lib.hid hb7; clear hb7)
      go_ret
      exact ⟨rfl, H4.out.trans (HB7.out.mono (by simpa using H4.out.size))⟩

end Go.Proofs.Ytibipalncknddaa
