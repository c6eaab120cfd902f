/- For every list of bytes, every place and every pattern of 16 bits the law SlotTurned returns true and leaves the bytes as they were: bytes of which two side by side are turned have another sum. No condition. -/
import Derived.Test.YtamglfbgmfkgoaaRows
import Derived.Test.YtamglfbgmfkgoaaSlotOf
import Derived.ProofKit
import Derived.OpenShut
import Derived.ShutString
import Derived.SliceStrings
import Derived.ChangeOld
namespace Go.Proofs.Ytamglfbgmfkgoaa.slotTurned
open Go.ChangeShapes Go.WideShapes Go.ChangeAt Go.RowKit
open Go.ChangeMaps (open_string shut_string)
set_option linter.unusedVariables false

theorem own : ownKnob Try.prog.godebug = none := by kernel_rfl
theorem laidOut : laidOutB Try.prog = true := by kernel_rfl

theorem Try.info5 : (Try.prog.info? 5).map (fun i => (i.zero, i.size, i.bytes)) = some (some (.int .u8 0), 1, 1) := by kernel_rfl

set_option maxRecDepth 100000 in
set_option maxHeartbeats 1000000 in
theorem walk_no (a : Option Addr) (cap : Nat) (l : List UInt8) (at_ by_ : Int) (w : World) (hl : l.length ≤ 9223372036854775807) (h : l.length < 2 ∨ 1000 < l.length ∨ by_ = 0) :
    Calls Try.prog 6 #[.slice a l.length cap, .int .u16 at_, .int .u16 by_] w fun e w' => e = .returned (.bool true) ∧ Below w.heap.size w w' := by
  by_cases h1 : l.length < 2
  · clear h
    go_enter Try.func6, Try.ntmps6
    go_wp2_with fail
    refine (awake_walk _).mono ?_
    rintro e w1 ⟨rfl, hb⟩
    have HB := Lib.hid hb
    clear hb
    go_wp2
    go_ret
    exact ⟨rfl, HB.out⟩
  · by_cases h2 : 1000 < l.length
    · clear h
      go_enter Try.func6, Try.ntmps6
      go_wp2_with fail
      refine (awake_walk _).mono ?_
      rintro e w1 ⟨rfl, hb⟩
      have HB := Lib.hid hb
      clear hb
      go_wp2
      go_ret
      exact ⟨rfl, HB.out⟩
    · obtain rfl : by_ = 0 := by omega
      clear h
      go_enter Try.func6, Try.ntmps6
      go_wp2_with fail
      refine (awake_walk _).mono ?_
      rintro e w1 ⟨rfl, hb⟩
      have HB := Lib.hid hb
      clear hb
      go_wp2
      go_ret
      exact ⟨rfl, HB.out⟩

set_option maxRecDepth 100000 in
set_option maxHeartbeats 1000000 in
theorem walk_yes (a : Option Addr) (cap : Nat) (l : List UInt8) (at_ by_ : Int) (w : World) (h1 : 2 ≤ l.length) (h2 : l.length ≤ 1000) (h3 : 1 ≤ by_) (h4 : by_ < 65536) (h5 : 0 ≤ at_) (h6 : at_ < 65536) (hB : Bytes w a l) :
    Calls Try.prog 6 #[.slice a l.length cap, .int .u16 at_, .int .u16 by_] w fun e w' => e = .returned (.bool true) ∧ Below w.heap.size w w' := by
  have hne : (by_ == 0) = false := by rw [beq_eq_false_iff_ne]; omega
  obtain ⟨b, off, rfl, hc⟩ : ∃ b off, a = some ⟨b, off, none⟩ ∧ ∀ k, k < l.length → w.cell? ⟨b, off + k, none⟩ = some (.int .u8 ((l.getD k 0).toNat : Int)) := by
    rcases hB with rfl | h
    · simp at h1
    · exact h
  have HC := Lib.hid hc
  clear hB hc
  obtain ⟨i0, hi, hz0, hz1, hz2⟩ := info_parts Try.info5
  go_enter Try.func6, Try.ntmps6
  go_wp2_with (at_builtin; refine wpList_append_own _ rfl (.tmp 22) (.tmp 23) 23 rfl w.heap.size 5 i0 (.int .u8 0) 1 1 Try.underlying23 hi hz0 hz1 hz2 rfl (by decide) _ 0 [] rfl (World.ownsRow_made w #[] 0 (Nat.le_refl _) (by decide) rfl) ⟨b, off, none⟩ l.length cap (l.map fun x => .int .u8 x.toNat) rfl ?c1 ?c2 ?c3 ?c4 ?c5 ?c6 ?_)
  case c1 => simp
  case c2 =>
    intro j u hu
    have hj : j < l.length := by
      have := (List.getElem?_eq_some_iff.1 hu).1
      simpa using this
    have e := HC.out j hj
    have h7 := World.block_lt_of_cell? w _ e
    have e2 : (w.alloc (.cells #[] 5)).cell? ⟨b, off + j, none⟩ = w.cell? ⟨b, off + j, none⟩ := World.cell?_alloc_lt _ _ _ h7
    have e3 : ((⟨b, off, none⟩ : Addr).add j) = ⟨b, off + j, none⟩ := by by_cases hj0 : j = 0 <;> simp [Addr.add, hj0]
    rw [e3, e2, e]
    simp [hj] at hu
    simp [List.getD, hj, ← hu]
  case c3 => intro u hu; simp at hu; obtain ⟨x, _, rfl⟩ := hu; rfl
  case c4 => unfold maxLen; omega
  case c5 => omega
  case c6 => simp
  intro v' w1 hown hgrow _
  obtain ⟨hxl, hcase⟩ := hown
  obtain ⟨g, cap2, cur, rfl, hgB, hgg, hnc, hcm, hcs, htk⟩ : ∃ g cap2 cur, v' = .slice (some ⟨g, 0, none⟩) l.length cap2 ∧ w.heap.size ≤ g ∧ w1.heap[g]? = some (.cells cur 5 (0, 0)) ∧ l.length ≤ cap2 ∧ cap2 ≤ maxLen ∧ cur.size = cap2 * 1 ∧ cur.toList.take (l.length * 1) = l.map fun x => .int .u8 x.toNat := by
    rcases hcase with ⟨_, h0⟩ | h0
    · omega
    · exact h0
  have hnew : ∀ j, j < l.length → w1.cell? ⟨g, j, none⟩ = some (.int .u8 ((l.getD j 0).toNat : Int)) := by
    intro j hj
    rw [cell_of_row w1 g j cur 5 (0, 0) hgg]
    have e : (cur.toList.take (l.length * 1))[j]? = cur[j]? := by
      rw [List.getElem?_take]; simp [hj]
    rw [← e, htk]
    simp [List.getD, hj]
  have hfr : ∀ j, w1.frozen? ⟨g, j, none⟩ = false := by
    intro j
    unfold World.frozen?
    simp [hgg]
  have hold : ∀ j, j < l.length → w1.cell? ⟨b, off + j, none⟩ = some (.int .u8 ((l.getD j 0).toNat : Int)) := by
    intro j hj
    have e := HC.out j hj
    have h7 := World.block_lt_of_cell? w _ e
    have e2 : (w.alloc (.cells #[] 5)).cell? ⟨b, off + j, none⟩ = some (.int .u8 ((l.getD j 0).toNat : Int)) := (World.cell?_alloc_lt _ _ _ h7).trans e
    refine hgrow.cell e2 ?_
    simp [Value.ownBlock]
    have h7' : b < w.heap.size := h7
    omega
  have hbg : b < w.heap.size := World.block_lt_of_cell? w _ (HC.out 0 (by omega))
  have hB1 : Below w.heap.size w w1 := Below.grown ((Below.refl _ _).alloc (Nat.le_refl _) _) hgrow (by simp) (by intro k hk; simp [Value.ownBlock] at hk; omega)
  obtain ⟨K, hK⟩ : ∃ K : Nat, at_ % ((l.length : Int) - 1) = K := ⟨(at_ % ((l.length : Int) - 1)).toNat, by have := Int.emod_nonneg at_ (show ((l.length : Int) - 1) ≠ 0 by omega); omega⟩
  have hKl : K + 1 < l.length := by
    have := Int.emod_lt_of_pos at_ (show 0 < ((l.length : Int) - 1) by omega)
    omega
  have HN := Lib.hid hnew
  have HO := Lib.hid hold
  have HF := Lib.hid hfr
  have HB1 := Lib.hid hB1
  have hcK := hnew K (by omega)
  have hcK1 := hnew (K + 1) (by omega)
  have hfK := hfr K
  have hfK1 := hfr (K + 1)
  clear hnew hold hfr hB1 hxl hcase hgg hnc hcm hcs htk hgrow hi hz0 hz1 hz2
  generalize hx0 : l.getD K 0 = x0 at hcK
  generalize hx1 : l.getD (K + 1) 0 = x1 at hcK1
  have HX0 := Lib.hid hx0
  have HX1 := Lib.hid hx1
  clear hx0 hx1
  go_upto_region 5 with (fail)
  rw [hK]
  clear hK
  obtain ⟨hh, hhe⟩ : ∃ hh : Nat, by_ / 256 = hh := ⟨(by_ / 256).toNat, by omega⟩
  obtain ⟨mm, hme⟩ : ∃ mm : Nat, by_ % 256 = mm := ⟨(by_ % 256).toNat, by omega⟩
  have hh8 : hh < 256 := by omega
  have hm8 : mm < 256 := by omega
  have hne0 : hh ≠ 0 ∨ mm ≠ 0 := by omega
  have hx08 : x0.toNat < 256 := UInt8.toNat_lt _
  have hx18 : x1.toNat < 256 := UInt8.toNat_lt _
  have hv0 : bits .xor .u8 (x0.toNat : Int) (by_ / 256) = ((UInt8.ofNat (x0.toNat ^^^ hh)).toNat : Int) := by
    rw [hhe, Crc16.ofNat_xor hx08 hh8]; exact u8_xor_nat _ _ hx08 hh8
  have hv1 : bits .xor .u8 (x1.toNat : Int) (by_ % 256) = ((UInt8.ofNat (x1.toNat ^^^ mm)).toNat : Int) := by
    rw [hme, Crc16.ofNat_xor hx18 hm8]; exact u8_xor_nat _ _ hx18 hm8
  have HV0 := Lib.hid hv0
  have HV1 := Lib.hid hv1
  have HNE := Lib.hid hne0
  clear hv0 hv1 hhe hme hne0
  go_wp2_with fail
  rw [HV0.out, HV1.out]
  have HCK := Lib.hid hcK
  have HCK1 := Lib.hid hcK1
  have hturn : Crc16.turned l K hh mm = (l.set K (UInt8.ofNat (x0.toNat ^^^ hh))).set (K + 1) (UInt8.ofNat (x1.toNat ^^^ mm)) := by
    unfold Crc16.turned; rw [HX0.out, HX1.out]
  clear hcK hcK1 hfK hfK1
  obtain ⟨w3, hw3⟩ : ∃ w3, w3 = (w1.setCell ⟨g, K, none⟩ (.int .u8 ((UInt8.ofNat (x0.toNat ^^^ hh)).toNat : Int))).setCell ⟨g, K + 1, none⟩ (.int .u8 ((UInt8.ofNat (x1.toNat ^^^ mm)).toNat : Int)) := ⟨_, rfl⟩
  rw [← hw3]
  have hb3 : Below w.heap.size w w3 := by
    rw [hw3]
    exact (HB1.out.setCell hgB _).setCell hgB _
  have hBb : Bytes w3 (some ⟨b, off, none⟩) l := .inr ⟨b, off, rfl, fun j hj => by
    rw [hb3.cell (p := ⟨b, off + j, none⟩) hbg]; exact HC.out j hj⟩
  have hlenT : (Crc16.turned l K hh mm).length = l.length := by rw [hturn]; simp
  have hBg : Bytes w3 (some ⟨g, 0, none⟩) (Crc16.turned l K hh mm) := .inr ⟨g, 0, rfl, fun j hj => by
    rw [hlenT] at hj
    rw [hw3, hturn, Nat.zero_add]
    by_cases hj1 : j = K + 1
    · subst hj1
      have e : (((l.set K (UInt8.ofNat (x0.toNat ^^^ hh))).set (K + 1) (UInt8.ofNat (x1.toNat ^^^ mm))).getD (K + 1) 0) = UInt8.ofNat (x1.toNat ^^^ mm) := by simp [List.getD, hj]
      rw [e]
      refine World.cell?_setCell_same _ _ _ (u := .int .u8 (x1.toNat : Int)) ?_
      rw [World.cell?_setCell_other _ _ _ _ (by simp)]
      exact HCK1.out
    · rw [World.cell?_setCell_other _ _ _ _ (by first | (simp; done) | (simp; omega))]
      by_cases hj0 : j = K
      · subst hj0
        have e : (((l.set j (UInt8.ofNat (x0.toNat ^^^ hh))).set (j + 1) (UInt8.ofNat (x1.toNat ^^^ mm))).getD j 0) = UInt8.ofNat (x0.toNat ^^^ hh) := by simp [List.getD, hj]
        rw [e]
        exact World.cell?_setCell_same _ _ _ HCK.out
      · have e : (((l.set K (UInt8.ofNat (x0.toNat ^^^ hh))).set (K + 1) (UInt8.ofNat (x1.toNat ^^^ mm))).getD j 0) = l.getD j 0 := by
          simp only [List.getD, List.getElem?_set]
          rw [if_neg (by omega), if_neg (by omega)]
        rw [World.cell?_setCell_other _ _ _ _ (by first | (simp; done) | (simp; omega)), e]
        exact HN.out j hj⟩
  have hdiff := Crc16.crc_turned hKl hh8 hm8 HNE.out
  have HB3 := Lib.hid hb3
  have HBB := Lib.hid hBb
  have HBG := Lib.hid hBg
  have hlt := Crc16.crc_lt l
  have HT := Lib.hid hlenT
  obtain ⟨ci, hci⟩ : ∃ ci : Int, ((Crc16.crc l : Nat) : Int) = ci := ⟨_, rfl⟩
  obtain ⟨c2, hc2⟩ : ∃ c2 : Int, ((Crc16.crc (Crc16.turned l K hh mm) : Nat) : Int) = c2 := ⟨_, rfl⟩
  have hneq : (ci != c2) = true := by
    rw [bne_iff_ne]; omega
  have hlo : 0 ≤ ci := by omega
  have hhi : ci < 65536 := by omega
  have C1 : Calls Try.prog 9 #[.slice (some ⟨b, off, none⟩) l.length cap] w3 fun e w' => e = .returned (.int .i64 ci) ∧ w3 = w' := by
    rw [← hci]; exact crc_any _ cap l _ (by omega) HBB.out
  have C2 : Calls Try.prog 9 #[.slice (some ⟨g, 0, none⟩) l.length cap2] w3 fun e w' => e = .returned (.int .i64 c2) ∧ w3 = w' := by
    rw [← hc2]
    have := crc_any (some ⟨g, 0, none⟩) cap2 (Crc16.turned l K hh mm) w3 (by rw [HT.out]; omega) HBG.out
    rw [HT.out] at this
    exact this
  have H1 := Lib.hid C1
  have H2 := Lib.hid C2
  clear hw3 hb3 hBb hBg hdiff hturn hlenT hlt hci hc2 C1 C2
  refine H1.out.mono ?_
  rintro e w4 ⟨rfl, rfl⟩
  go_wp2_with fail
  refine H2.out.mono ?_
  rintro e w4 ⟨rfl, rfl⟩
  go_wp2_with fail
  refine H1.out.mono ?_
  rintro e w4 ⟨rfl, rfl⟩
  go_wp2_with fail
  refine H1.out.mono ?_
  rintro e w4 ⟨rfl, rfl⟩
  go_wp2_with fail
  refine (awake_walk _).mono ?_
  rintro e w5 ⟨rfl, hb⟩
  have HB5 := Lib.hid hb
  clear hb
  go_wp2
  go_ret
  exact ⟨rfl, HB3.out.trans (HB5.out.mono HB3.out.size)⟩

theorem walk (a : Option Addr) (cap : Nat) (l : List UInt8) (at_ by_ : Int) (w : World) (hl : l.length ≤ maxLen) (hB : Bytes w a l) (w1 : (Lit.int .u16 at_).wf = true) (w2 : (Lit.int .u16 by_).wf = true) :
    Calls Try.prog 6 #[.slice a l.length cap, .int .u16 at_, .int .u16 by_] w fun e w' => e = .returned (.bool true) ∧ Below w.heap.size w w' := by
  have hl' : l.length ≤ 9223372036854775807 := by unfold maxLen at hl; omega
  have b1 := bounds_u16 w1
  have b2 := bounds_u16 w2
  by_cases h : l.length < 2 ∨ 1000 < l.length ∨ by_ = 0
  · exact walk_no a cap l at_ by_ w hl' h
  · exact walk_yes a cap l at_ by_ w (by omega) (by omega) (by omega) (by omega) (by omega) (by omega) hB

set_option maxRecDepth 100000 in
theorem lifted (os : Os) (started : os.Started) (H : Type) (enc : TypeId × Value → H) :
    ReturnsInHanded {} Try.checked os 6 .any (Rows.slotTurnedSpec.pre6 enc Try.prog Try.f6 Rows.slotTurnedRow.domain false) (Rows.slotTurnedSpec.post enc Try.prog Try.f6 false true false false) := by
  refine returnsInHanded_of_change (C := Try.checked) own started (by kernel_rfl) Try.func6
    (ChangeSpec.witness6 (enc := enc) (C := Try.checked) false ⟨#[], #[.slice none 0 0, .int .u16 0, .int .u16 0], []⟩ 8 (by kernel_rfl) (by kernel_rfl) (by kernel_rfl) (by kernel_rfl)) ?_
  intro W base args ds gs before hval0 hW hcnd _
  have hval : ∀ (j : Nat) t v, Try.f6.params[j]? = some t → args[j]? = some v → Value.okWide Try.prog W .any base t v := hval0
  have hW' := hW
  obtain ⟨p, q, hA0, hV, rfl, hfz, hnd⟩ := hW
  have hA : DataW.TrodAll enc Try.prog W 0 (fun _ => true) true Try.f6.params.toList args.toList ds p := hA0
  rw [Try.params6] at hA hval
  obtain ⟨v0, vs0, d0, ds0, p0, q0, hargs, rfl, rfl, h0, r0⟩ := trodAll_cons hA
  obtain ⟨v1, vs1, d1, ds1, p1, q1, rfl, rfl, rfl, h1, r1⟩ := trodAll_cons r0
  obtain ⟨v2, vs2, d2, ds2, p2, q2, rfl, rfl, rfl, h2, r2⟩ := trodAll_cons r1
  obtain ⟨rfl, rfl, rfl⟩ := trodAll_nil r2
  obtain rfl : args = #[v0, v1, v2] := by cases args; simp_all
  obtain ⟨rfl, rfl⟩ := trodVars_none hV
  obtain ⟨a0, len0, cap0, rfl⟩ := okWide_slice Try.underlying23 (hval 0 23 v0 rfl rfl)
  have k0 := h0
  have lt0 : ∀ x ∈ p0, x.block < W.heap.size := by obtain ⟨m, hm⟩ := k0; exact DataW.trod_lt m _ _ _ hm
  obtain ⟨z0, rfl, l0, w0⟩ : ∃ l : List UInt8, len0 = l.length ∧ l.length ≤ maxLen ∧ Bytes W a0 l := by
    obtain ⟨fuel, hf⟩ := h0
    rcases open_ints Try.underlying23 Try.underlying5 (by kernel_rfl) hf with ⟨hcs, _⟩ | ⟨x, l, c, zs, hcs, _, hl, hm, hz, _, hcell, hwz⟩
    · simp [Value.cells] at hcs
      obtain ⟨rfl, rfl, rfl⟩ := hcs
      exact ⟨[], rfl, Nat.zero_le _, .inl rfl⟩
    · simp [Value.cells] at hcs
      obtain ⟨rfl, rfl, rfl⟩ := hcs
      exact bytes_of W x len0 cap0 zs hl hm (by simp at hz; omega) hcell hwz
  obtain ⟨a1, rfl, rfl, rfl, w1⟩ := open_int Try.underlying34 (hval 1 34 v1 rfl rfl) h1
  obtain ⟨a2, rfl, rfl, rfl, w2⟩ := open_int Try.underlying34 (hval 2 34 v2 rfl rfl) h2
  clear hA0 hval0
  refine (walk a0 cap0 z0 a1 a2 W l0 w0 w1 w2).mono fun e W' ⟨he, bel⟩ => ?_
  subst he
  exact ⟨_, rfl, _, _, _, [], _, [], hW', trodAll_mk1 (shut_bool Try.underlying4 _), (trodAll_cons_mk (Below.trod laidOut (by kernel_rfl) (of_decide_eq_true (by kernel_rfl)) k0 bel lt0) (trodAll_cons_mk (shut_int Try.underlying34 w1) (trodAll_cons_mk (shut_int Try.underlying34 w2) trodAll_mk0))), rfl, bel.frame _, fun h => by cases h⟩

theorem over : Rows.slotTurnedRow.holds Try.pinned (OpenSpec.ofChange Rows.slotTurnedSpec) :=
  OpenClaim.holds_of_wide 6 Try.f6 rfl rfl rfl rfl rfl rfl rfl ⟨rfl, rfl, rfl, rfl, rfl⟩ rfl rfl rfl rfl rfl (by kernel_rfl) Try.func6 (by kernel_rfl)
    (of_decide_eq_true (by kernel_rfl)) (by unfold Func.isWrapper; first | (rw [if_pos (by decide +kernel)]; kernel_rfl) | (rw [if_neg (by decide +kernel)]; exact ⟨rfl, rfl⟩))
    (fun os started H enc _ => lifted os started H enc)

theorem proved : Rows.SlotTurnedSaid := over
#print axioms proved
end Go.Proofs.Ytamglfbgmfkgoaa.slotTurned
