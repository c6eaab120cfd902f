/- For all keys and numbers the law SlotMany returns true: many keys have one slot just if each has the first one's; none have none. No condition. -/
import Derived.Test.YtamglfbgmfkgoaaRows
import Derived.Test.YtamglfbgmfkgoaaSlotOf
import Derived.ProofKit
import Derived.OpenShut
import Derived.ShutString
import Derived.SliceStrings
import Derived.ChangeOld
namespace Go.Proofs.Ytamglfbgmfkgoaa.slotMany
open Go.ChangeShapes Go.WideShapes Go.ChangeAt Go.RowKit
open Go.ChangeMaps (open_string shut_string)
set_option linter.unusedVariables false

theorem own : ownKnob Try.prog.godebug = none := by kernel_rfl
theorem laidOut : laidOutB Try.prog = true := by kernel_rfl

theorem Try.info9 : (Try.prog.info? 9).map (fun i => (i.zero, i.size, i.bytes)) = some (some (.string ⟨#[]⟩), 1, 16) := by kernel_rfl

theorem one_replicate (n : Nat) (h : 0 < n) (key : ByteArray) : oneOf (List.replicate n key) = some (slotOf key.data.toList) := by
  cases n with
  | zero => omega
  | succ n =>
    rw [List.replicate_succ]
    show (if _ then _ else _) = _
    rw [if_pos]
    rw [List.all_eq_true]
    intro x hx
    rw [(List.mem_replicate.1 hx).2]
    simp

theorem one_set_one (key other : ByteArray) : oneOf ((List.replicate 1 key).set 0 other) = some (slotOf other.data.toList) := rfl

theorem getD_set (n j k : Nat) (key other : ByteArray) (hk : k < n) : ((List.replicate n key).set j other).getD k ByteArray.empty = if j = k then other else key := by
  simp only [List.getD, List.getElem?_set, List.length_replicate, List.getElem?_replicate]
  by_cases h : j = k
  · subst h; simp [hk]
  · simp [h, hk]

theorem one_set_same (n j : Nat) (key other : ByteArray) (hn : 2 ≤ n) (h : slotOf other.data.toList = slotOf key.data.toList) :
    oneOf ((List.replicate n key).set j other) = some (slotOf key.data.toList) := by
  have hl : ((List.replicate n key).set j other).length = n := by simp
  have h0 := getD_set n j 0 key other (by omega)
  rw [all_same (h0 := by rw [hl]; omega)]
  · rw [h0]; split
    · rw [h]
    · rfl
  · intro i hi
    rw [hl] at hi
    rw [getD_set n j (i + 1) key other hi, h0]
    split <;> split <;> simp [h]

theorem one_set_other (n j : Nat) (key other : ByteArray) (hn : 2 ≤ n) (hj : j < n) (h : slotOf other.data.toList ≠ slotOf key.data.toList) :
    oneOf ((List.replicate n key).set j other) = none := by
  have hl : ((List.replicate n key).set j other).length = n := by simp
  have h0 := getD_set n j 0 key other (by omega)
  by_cases hj0 : j = 0
  · subst hj0
    refine one_other (j := 0) (by rw [hl]; omega) ?_
    rw [h0, getD_set n 0 (0 + 1) key other (by omega)]
    simpa using fun e => h e.symm
  · obtain ⟨i, rfl⟩ : ∃ i, j = i + 1 := ⟨j - 1, by omega⟩
    refine one_other (j := i) (by rw [hl]; omega) ?_
    rw [h0, getD_set n (i + 1) (i + 1) key other (by omega)]
    simpa using h

theorem walk_long (key other : ByteArray) (n at_ : Int) (w : World) (h1 : key.size ≤ 9223372036854775807) (h2 : other.size ≤ 9223372036854775807) (h : 60 < key.size ∨ 60 < other.size) :
    Calls Try.prog 8 #[.string key, .int .u8 n, .string other, .int .u8 at_] w fun e w' => e = .returned (.bool true) ∧ Below w.heap.size w w' := by
  by_cases g1 : 60 < key.size
  · clear h
    go_enter Try.func8, Try.ntmps8
    go_wp2_with fail
    refine (awake_walk _).mono ?_
    rintro e w1 ⟨rfl, hb⟩
    have HB := Lib.hid hb
    clear hb
    go_wp2
    go_ret
    exact ⟨rfl, HB.out⟩
  · have g2 : 60 < other.size := by
      rcases h with h | h
      · exact absurd h g1
      · exact h
    clear h
    go_enter Try.func8, Try.ntmps8
    go_wp2_with fail
    refine (awake_walk _).mono ?_
    rintro e w1 ⟨rfl, hb⟩
    have HB := Lib.hid hb
    clear hb
    go_wp2
    go_ret
    exact ⟨rfl, HB.out⟩

set_option maxRecDepth 100000 in
set_option maxHeartbeats 1000000 in
theorem walk_short (key other : ByteArray) (n at_ : Int) (w : World) (h1 : key.size ≤ 60) (h2 : other.size ≤ 60) (hn0 : 0 ≤ n) (hn1 : n ≤ 255) (ha0 : 0 ≤ at_) (ha1 : at_ ≤ 255) :
    Calls Try.prog 8 #[.string key, .int .u8 n, .string other, .int .u8 at_] w fun e w' => e = .returned (.bool true) ∧ Below w.heap.size w w' := by
  obtain ⟨N, hN⟩ : ∃ N : Nat, 1 + n % 6 = N := ⟨(1 + n % 6).toNat, by omega⟩
  have hN1 : 1 ≤ N := by omega
  have hN6 : N ≤ 6 := by omega
  have HNN := Lib.hid hN
  have zk : key.size ≤ maxLen := by unfold maxLen; omega
  have zo : other.size ≤ maxLen := by unfold maxLen; omega
  have ZK := Lib.hid zk
  have ZO := Lib.hid zo
  clear hN zk zo
  obtain ⟨i0, hi, hz0, hz1, hz2⟩ := info_parts Try.info9
  go_enter Try.func8, Try.ntmps8
  go_wp2_with fail
  go_loopw [9, 10] (fun v i wr => ∃ k : Nat, k ≤ N ∧ i = .int .i64 k ∧ Hid (wr.ownsRow w.heap.size 9 1 v k ((List.replicate k key).map Value.string)) ∧ Hid (Below w.heap.size w wr)) (fun _ i _ => N - (intOf i).toNat)
  case atStart => exact ⟨0, Nat.zero_le _, rfl, Lib.hid (World.ownsRow_nil _ _ _ _), Lib.hid (Below.refl _ _)⟩
  case round =>
    obtain ⟨k, hk, rfl, HO, HB⟩ := hrel
    go_upto_if 31 with (fail)
    rw [HNN.out]
    by_cases hlt : k < N
    · go_wp2_with (at_builtin; refine wpList_append_own _ rfl (.tmp 34) (.tmp 36) 28 rfl w.heap.size 9 i0 (.string ⟨#[]⟩) 1 16 Try.underlying28 hi hz0 hz1 hz2 rfl (by decide) _ k ((List.replicate k key).map Value.string) rfl (HO.out.alloc _) ⟨wr.heap.size, 0, none⟩ 1 1 [.string key] rfl rfl ?c2 ?c3 ?c4 ?c5 ?c6 ?_)
      case c2 =>
        intro j u hj
        match j, hj with
        | 0, hj => simp at hj; subst hj; simp [Addr.add]
      case c3 => intro u hu; simp at hu; subst hu; rfl
      case c4 => unfold maxLen; omega
      case c5 => omega
      case c6 => have := HB.out.size; simp; omega
      intro v' w1 hown hgrow _
      have hB1 : Below w.heap.size w w1 := Below.grown (HB.out.alloc HB.out.size _) hgrow (by have := HB.out.size; simp; omega) (fun b hb => (HO.out.lt b hb).1)
      have hown2 : w1.ownsRow w.heap.size 9 1 v' (k + 1) ((List.replicate (k + 1) key).map Value.string) := by
        have e : (List.replicate (k + 1) key).map Value.string = (List.replicate k key).map Value.string ++ [.string key] := by
          rw [List.replicate_succ']; simp
        rw [e, List.map_replicate]; exact hown
      have HB1 := Lib.hid hB1
      have HO1 := Lib.hid hown2
      clear hB1 hown hown2 hgrow
      go_wp2
      go_roundw
      case rel => exact ⟨k + 1, by omega, by go_num, HO1, HB1⟩
      case measure => simp [intOf]; omega
    · obtain rfl : k = N := by omega
      have hlen : (List.replicate k key).length = k := by simp
      have ho := HO.out
      rw [← hlen] at ho
      obtain ⟨g, cap, hv, hgB, hgl, hgc, hS, hfr⟩ := strs_owned (ss := List.replicate k key) (by simpa using ho) (by simp; omega) (fun s hs => by rw [(List.mem_replicate.1 hs).2]; exact ZK.out)
      rw [hlen] at hv
      have HS := Lib.hid hS
      have HF := Lib.hid hfr
      clear ho hS hfr HO
      subst hv
      have hone := one_any (some ⟨g, 0, none⟩) cap (List.replicate k key) wr (by simp; omega) HS.out
      rw [hlen, one_replicate k (by omega)] at hone
      have HONE := Lib.hid hone
      clear hone
      go_wp2_with fail
      refine HONE.out.mono ?_
      rintro e w1 ⟨rfl, hb⟩
      have HB1 := Lib.hid (HB.out.trans (hb.mono HB.out.size))
      have HS1 := Lib.hid (HS.out.later hb)
      have HF1 : Hid (∀ j, w1.frozen? ⟨g, j, none⟩ = false) := Lib.hid (fun j => by rw [hb.frozen (p := ⟨g, j, none⟩) hgl]; exact HF.out j)
      have hgl1 : g < w1.heap.size := Nat.lt_of_lt_of_le hgl hb.size
      clear hb HB HS HF hgl HONE
      simp only [oneVal]
      go_wp2_with fail
      refine (of_walk key _ ZK.out).mono ?_
      rintro e w2 ⟨rfl, hb⟩
      have HB2 := Lib.hid (HB1.out.trans (hb.mono HB1.out.size))
      have HS2 := Lib.hid (HS1.out.later hb)
      have HF2 : Hid (∀ j, w2.frozen? ⟨g, j, none⟩ = false) := Lib.hid (fun j => by rw [hb.frozen (p := ⟨g, j, none⟩) hgl1]; exact HF1.out j)
      clear hb HB1 HS1 HF1 hgl1
      obtain ⟨J, hJ⟩ : ∃ J : Nat, at_ % (k : Int) = J := ⟨(at_ % (k : Int)).toNat, by have := Int.emod_nonneg at_ (show (k : Int) ≠ 0 by omega); omega⟩
      have hJk : J < k := by
        have := Int.emod_lt_of_pos at_ (show 0 < (k : Int) by omega)
        omega
      have hcell : w2.cell? ⟨g, J, none⟩ = some (.string key) := by
        obtain ⟨_, _, h⟩ := HS2.out
        rcases h with h | ⟨b, off, hb, _, hc⟩
        · have := congrArg List.length h
          simp at this; omega
        · simp at hb
          obtain ⟨rfl, rfl⟩ := hb
          have := hc J (by simpa using hJk)
          rw [Nat.zero_add] at this
          rw [this]
          simp [List.getD, hJk]
      have hfz := HF2.out J
      have hSS := HS2.out.set (j := J) (by simpa using hJk) ZO.out
      have HSS := Lib.hid hSS
      have hkpos : (0 : Int) < (k : Int) := by omega
      clear hSS HS2 HF2
      go_wp2_with fail
      have hB3 : Below w.heap.size w (w2.setCell ⟨g, J, none⟩ (.string other)) := HB2.out.setCell hgB _
      generalize hw3 : w2.setCell ⟨g, J, none⟩ (.string other) = w3 at *
      have HB3 := Lib.hid hB3
      clear hB3 HB2 hcell hfz hw3 hJ
      have hl2 : ((List.replicate k key).set J other).length = k := by simp
      have hone2 := one_any (some ⟨g, 0, none⟩) cap ((List.replicate k key).set J other) w3 (by rw [hl2]; omega) HSS.out
      rw [hl2] at hone2
      have HONE2 := Lib.hid hone2
      clear hone2 hl2
      by_cases hk1 : k = 1
      · subst hk1
        obtain rfl : J = 0 := by omega
        refine (HONE2.out).mono ?_
        rintro e w4 ⟨rfl, hb⟩
        have HB4 := Lib.hid (HB3.out.trans (hb.mono HB3.out.size))
        clear hb HB3 HONE2
        rw [one_set_one]
        simp only [oneVal]
        go_wp2_with fail
        refine (of_walk other _ ZO.out).mono ?_
        rintro e w5 ⟨rfl, hb⟩
        have HB5 := Lib.hid (HB4.out.trans (hb.mono HB4.out.size))
        clear hb HB4
        go_wp2_with fail
        refine (awake_walk _).mono ?_
        rintro e w6 ⟨rfl, hb⟩
        have HB6 := Lib.hid (HB5.out.trans (hb.mono HB5.out.size))
        clear hb HB5
        go_wp2
        go_ret
        exact ⟨rfl, HB6.out⟩
      · have hne : ((k : Int) == 1) = false := by rw [beq_eq_false_iff_ne]; omega
        refine (HONE2.out).mono ?_
        rintro e w4 ⟨rfl, hb⟩
        have HB4 := Lib.hid (HB3.out.trans (hb.mono HB3.out.size))
        clear hb HB3 HONE2
        by_cases hsame : slotOf other.data.toList = slotOf key.data.toList
        · rw [one_set_same k J key other (by omega) hsame]
          simp only [oneVal]
          have hq : ((slotOf other.data.toList : Int) == (slotOf key.data.toList : Int)) = true := by rw [beq_iff_eq]; omega
          clear hsame
          go_wp2_with fail
          refine (one_nil none 0 _).mono ?_
          rintro e w5 ⟨rfl, rfl⟩
          go_wp2_with fail
          refine (refSlot_walk other _ ZO.out).mono ?_
          rintro e w5 ⟨rfl, rfl⟩
          go_wp2_with fail
          refine (refSlot_walk key _ ZK.out).mono ?_
          rintro e w5 ⟨rfl, rfl⟩
          go_wp2_with fail
          refine (awake_walk _).mono ?_
          rintro e w6 ⟨rfl, hb⟩
          have HB6 := Lib.hid (HB4.out.trans (hb.mono HB4.out.size))
          clear hb HB4
          go_wp2
          go_ret
          exact ⟨rfl, HB6.out⟩
        · rw [one_set_other k J key other (by omega) hJk hsame]
          simp only [oneVal]
          have hq : ((slotOf other.data.toList : Int) == (slotOf key.data.toList : Int)) = false := by rw [beq_eq_false_iff_ne]; omega
          clear hsame
          go_wp2_with fail
          refine (one_nil none 0 _).mono ?_
          rintro e w5 ⟨rfl, rfl⟩
          go_wp2_with fail
          refine (refSlot_walk other _ ZO.out).mono ?_
          rintro e w5 ⟨rfl, rfl⟩
          go_wp2_with fail
          refine (refSlot_walk key _ ZK.out).mono ?_
          rintro e w5 ⟨rfl, rfl⟩
          go_wp2_with fail
          refine (awake_walk _).mono ?_
          rintro e w6 ⟨rfl, hb⟩
          have HB6 := Lib.hid (HB4.out.trans (hb.mono HB4.out.size))
          clear hb HB4
          go_wp2
          go_ret
          exact ⟨rfl, HB6.out⟩

theorem walk (key : ByteArray) (n : Int) (other : ByteArray) (at_ : Int) (w : World) (w0 : key.size ≤ maxLen) (w1 : (Lit.int .u8 n).wf = true) (w2 : other.size ≤ maxLen) (w3 : (Lit.int .u8 at_).wf = true) :
    Calls Try.prog 8 #[.string key, .int .u8 n, .string other, .int .u8 at_] w fun e w' => e = .returned (.bool true) ∧ Below w.heap.size w w' := by
  have h1 : key.size ≤ 9223372036854775807 := by unfold maxLen at w0; omega
  have h2 : other.size ≤ 9223372036854775807 := by unfold maxLen at w2; omega
  have b1 := bounds_u8 w1
  have b2 := bounds_u8 w3
  by_cases h : 60 < key.size ∨ 60 < other.size
  · exact walk_long key other n at_ w h1 h2 h
  · refine walk_short key other n at_ w ?_ ?_ (by omega) (by omega) (by omega) (by omega)
    · exact Nat.le_of_not_lt fun g => h (.inl g)
    · exact Nat.le_of_not_lt fun g => h (.inr g)

set_option maxRecDepth 100000 in
theorem lifted (os : Os) (started : os.Started) (H : Type) (enc : TypeId × Value → H) :
    ReturnsInHanded {} Try.checked os 8 .any (Rows.slotManySpec.pre6 enc Try.prog Try.f8 Rows.slotManyRow.domain false) (Rows.slotManySpec.post enc Try.prog Try.f8 false true false false) := by
  refine returnsInHanded_of_change (C := Try.checked) own started (by kernel_rfl) Try.func8
    (ChangeSpec.witness6 (enc := enc) (C := Try.checked) false ⟨#[], #[.string ByteArray.empty, .int .u8 0, .string ByteArray.empty, .int .u8 0], []⟩ 8 (by kernel_rfl) (by kernel_rfl) (by kernel_rfl) (by kernel_rfl)) ?_
  intro W base args ds gs before hval0 hW hcnd _
  have hval : ∀ (j : Nat) t v, Try.f8.params[j]? = some t → args[j]? = some v → Value.okWide Try.prog W .any base t v := hval0
  have hW' := hW
  obtain ⟨p, q, hA0, hV, rfl, hfz, hnd⟩ := hW
  have hA : DataW.TrodAll enc Try.prog W 0 (fun _ => true) true Try.f8.params.toList args.toList ds p := hA0
  rw [Try.params8] at hA hval
  obtain ⟨v0, vs0, d0, ds0, p0, q0, hargs, rfl, rfl, h0, r0⟩ := trodAll_cons hA
  obtain ⟨v1, vs1, d1, ds1, p1, q1, rfl, rfl, rfl, h1, r1⟩ := trodAll_cons r0
  obtain ⟨v2, vs2, d2, ds2, p2, q2, rfl, rfl, rfl, h2, r2⟩ := trodAll_cons r1
  obtain ⟨v3, vs3, d3, ds3, p3, q3, rfl, rfl, rfl, h3, r3⟩ := trodAll_cons r2
  obtain ⟨rfl, rfl, rfl⟩ := trodAll_nil r3
  obtain rfl : args = #[v0, v1, v2, v3] := by cases args; simp_all
  obtain ⟨rfl, rfl⟩ := trodVars_none hV
  obtain ⟨a0, rfl, rfl, rfl, w0⟩ := open_string Try.underlying9 (hval 0 9 v0 rfl rfl) h0
  obtain ⟨a1, rfl, rfl, rfl, w1⟩ := open_int Try.underlying5 (hval 1 5 v1 rfl rfl) h1
  obtain ⟨a2, rfl, rfl, rfl, w2⟩ := open_string Try.underlying9 (hval 2 9 v2 rfl rfl) h2
  obtain ⟨a3, rfl, rfl, rfl, w3⟩ := open_int Try.underlying5 (hval 3 5 v3 rfl rfl) h3
  clear hA0 hval0
  refine (walk a0 a1 a2 a3 W w0 w1 w2 w3).mono fun e W' ⟨he, bel⟩ => ?_
  subst he
  exact ⟨_, rfl, _, _, _, [], _, [], hW', trodAll_mk1 (shut_bool Try.underlying4 _), (trodAll_cons_mk (shut_string Try.underlying9 w0) (trodAll_cons_mk (shut_int Try.underlying5 w1) (trodAll_cons_mk (shut_string Try.underlying9 w2) (trodAll_cons_mk (shut_int Try.underlying5 w3) trodAll_mk0)))), rfl, bel.frame _, fun h => by cases h⟩

theorem over : Rows.slotManyRow.holds Try.pinned (OpenSpec.ofChange Rows.slotManySpec) :=
  OpenClaim.holds_of_wide 8 Try.f8 rfl rfl rfl rfl rfl rfl rfl ⟨rfl, rfl, rfl, rfl, rfl⟩ rfl rfl rfl rfl rfl (by kernel_rfl) Try.func8 (by kernel_rfl)
    (of_decide_eq_true (by kernel_rfl)) (by unfold Func.isWrapper; first | (rw [if_pos (by decide +kernel)]; kernel_rfl) | (rw [if_neg (by decide +kernel)]; exact ⟨rfl, rfl⟩))
    (fun os started H enc _ => lifted os started H enc)

theorem proved : Rows.SlotManySaid := over
#print axioms proved
end Go.Proofs.Ytamglfbgmfkgoaa.slotMany
