/- For every list of keys the law SlotOne returns true and leaves the keys as they were: whether keys share a slot, and which, is what the reference gives, where there are at most 50 keys of at most 200 bytes each. No condition. -/
import Derived.Test.YtamglfbgmfkgoaaRows
import Derived.Test.YtamglfbgmfkgoaaSlotOf
import Derived.ProofKit
import Derived.OpenShut
import Derived.ShutString
import Derived.SliceStrings
import Derived.ChangeOld
namespace Go.Proofs.Ytamglfbgmfkgoaa.slotOne
open Go.ChangeShapes Go.WideShapes Go.ChangeAt Go.RowKit
open Go.ChangeMaps (open_string shut_string)
set_option linter.unusedVariables false

theorem own : ownKnob Try.prog.godebug = none := by kernel_rfl
theorem laidOut : laidOutB Try.prog = true := by kernel_rfl

set_option maxRecDepth 100000 in
set_option maxHeartbeats 1000000 in
theorem walk (a : Option Addr) (cap : Nat) (ss : List ByteArray) (w : World) (hlen : ss.length ≤ maxLen) (hS : Strs w a cap ss) :
    Calls Try.prog 4 #[.slice a ss.length cap] w fun e w' => e = .returned (.bool true) ∧ Below w.heap.size w w' := by
  have hlen' : ss.length ≤ 9223372036854775807 := by unfold maxLen at hlen; omega
  clear hlen
  by_cases h : 50 < ss.length
  · go_enter Try.func4, Try.ntmps4
    go_wp2_with fail
    refine (awake_walk _).mono ?_
    rintro e w1 ⟨rfl, hb⟩
    have HB := Lib.hid hb
    clear hb
    go_wp2
    go_ret
    exact ⟨rfl, HB.out⟩
  · have HS := Lib.hid hS
    have HC : ∀ k, k < ss.length → ∃ b off, a = some ⟨b, off, none⟩ ∧ w.cell? ⟨b, off + k, none⟩ = some (.string (ss.getD k ByteArray.empty)) := by
      intro k hk
      obtain ⟨_, _, h2⟩ := hS
      rcases h2 with rfl | ⟨b, off, rfl, _, hc⟩
      · simp at hk
      · exact ⟨b, off, rfl, hc k hk⟩
    have HC' := Lib.hid HC
    have HZ : Hid (∀ k, k < ss.length → (ss.getD k ByteArray.empty).size ≤ maxLen) := Lib.hid (fun k hk => getD_size hS.2.1 k hk)
    clear HC hS
    go_enter Try.func4, Try.ntmps4
    go_wp2_with fail
    go_loop [2, 3] (fun r i => ∃ n : Nat, n ≤ ss.length ∧ r = .bool false ∧ i = .int .i64 n) (fun _ i => ss.length - (intOf i).toNat)
    case atStart => exact ⟨0, Nat.zero_le _, rfl, rfl⟩
    case round =>
      obtain ⟨n, hn, rfl, rfl⟩ := hrel
      by_cases hlt : n < ss.length
      · obtain ⟨b, off, rfl, hcell⟩ := HC'.out n hlt
        have hz := HZ.out n hlt
        generalize ss.getD n ByteArray.empty = s at hcell hz
        have hz' : s.size ≤ 9223372036854775807 := by unfold maxLen at hz; omega
        by_cases hbig : 200 < s.size
        · go_wp2_with fail
          refine (awake_walk _).mono ?_
          rintro e w1 ⟨rfl, hb⟩
          have HB := Lib.hid hb
          clear hb hcell
          go_wp2
          go_ret
          exact ⟨rfl, HB.out⟩
        · go_wp2
          go_round
          case rel => exact ⟨n + 1, by omega, rfl, by go_num⟩
          case measure => simp [intOf]; omega
      · go_wp2_with fail
        refine (one_any a cap ss _ hlen' HS.out).mono ?_
        rintro e w1 ⟨rfl, hb⟩
        have HB := Lib.hid hb
        have HS1 := Lib.hid (HS.out.later hb)
        clear hb HC' HZ
        cases ho : oneOf ss with
        | none =>
          have HO := Lib.hid ho
          clear ho
          simp only [oneVal]
          go_wp2_with fail
          refine (refOne_any a cap ss _ hlen' HS1.out).mono ?_
          rintro e w2 ⟨rfl, rfl⟩
          rw [HO.out]
          simp only [refOneVal]
          have hmax : max (0 : Int) (-1) = 0 := by decide
          go_wp2_with fail
          refine (awake_walk _).mono ?_
          rintro e w2 ⟨rfl, hb⟩
          have HB2 := Lib.hid hb
          clear hb
          go_wp2
          go_ret
          exact ⟨rfl, HB.out.trans (HB2.out.mono HB.out.size)⟩
        | some k =>
          have HO := Lib.hid ho
          clear ho
          simp only [oneVal]
          go_wp2_with fail
          refine (refOne_any a cap ss _ hlen' HS1.out).mono ?_
          rintro e w2 ⟨rfl, rfl⟩
          rw [HO.out]
          simp only [refOneVal]
          go_wp2_with fail
          refine (awake_walk _).mono ?_
          rintro e w2 ⟨rfl, hb⟩
          have HB2 := Lib.hid hb
          clear hb
          go_wp2
          go_ret
          exact ⟨rfl, HB.out.trans (HB2.out.mono HB.out.size)⟩

set_option maxRecDepth 100000 in
theorem lifted (os : Os) (started : os.Started) (H : Type) (enc : TypeId × Value → H) :
    ReturnsInHanded {} Try.checked os 4 .any (Rows.slotOneSpec.pre6 enc Try.prog Try.f4 Rows.slotOneRow.domain false) (Rows.slotOneSpec.post enc Try.prog Try.f4 false true false false) := by
  refine returnsInHanded_of_change (C := Try.checked) own started (by kernel_rfl) Try.func4
    (ChangeSpec.witness6 (enc := enc) (C := Try.checked) false ⟨#[], #[.slice none 0 0], []⟩ 8 (by kernel_rfl) (by kernel_rfl) (by kernel_rfl) (by kernel_rfl)) ?_
  intro W base args ds gs before hval0 hW hcnd _
  have hval : ∀ (j : Nat) t v, Try.f4.params[j]? = some t → args[j]? = some v → Value.okWide Try.prog W .any base t v := hval0
  have hW' := hW
  obtain ⟨p, q, hA0, hV, rfl, hfz, hnd⟩ := hW
  have hA : DataW.TrodAll enc Try.prog W 0 (fun _ => true) true Try.f4.params.toList args.toList ds p := hA0
  rw [Try.params4] at hA hval
  obtain ⟨v0, vs0, d0, ds0, p0, q0, hargs, rfl, rfl, h0, r0⟩ := trodAll_cons hA
  obtain ⟨rfl, rfl, rfl⟩ := trodAll_nil r0
  obtain rfl : args = #[v0] := by cases args; simp_all
  obtain ⟨rfl, rfl⟩ := trodVars_none hV
  obtain ⟨a0, len0, cap0, rfl⟩ := okWide_slice Try.underlying28 (hval 0 28 v0 rfl rfl)
  have k0 := h0
  have lt0 : ∀ x ∈ p0, x.block < W.heap.size := by obtain ⟨m, hm⟩ := k0; exact DataW.trod_lt m _ _ _ hm
  obtain ⟨ss0, rfl, l0, w0⟩ : ∃ ss : List ByteArray, len0 = ss.length ∧ ss.length ≤ maxLen ∧ Strs W a0 cap0 ss := by
    obtain ⟨fuel, hf⟩ := h0
    rcases open_strings Try.underlying28 Try.underlying9 (by kernel_rfl) hf with ⟨hcs, _⟩ | ⟨x, l, c, ss, hcs, _, hl, hm, hz, _, hcell, hws⟩
    · simp [Value.cells] at hcs
      obtain ⟨rfl, rfl, rfl⟩ := hcs
      exact ⟨[], rfl, Nat.zero_le _, strs_none W⟩
    · simp [Value.cells] at hcs
      obtain ⟨rfl, rfl, rfl⟩ := hcs
      exact strs_of W x len0 cap0 ss hl hm (by simp at hz; omega) hcell hws
  clear hA0 hval0
  refine (walk a0 cap0 ss0 W l0 w0).mono fun e W' ⟨he, bel⟩ => ?_
  subst he
  exact ⟨_, rfl, _, _, _, [], _, [], hW', trodAll_mk1 (shut_bool Try.underlying4 _), (trodAll_cons_mk (Below.trod laidOut (by kernel_rfl) (of_decide_eq_true (by kernel_rfl)) k0 bel lt0) trodAll_mk0), rfl, bel.frame _, fun h => by cases h⟩

theorem over : Rows.slotOneRow.holds Try.pinned (OpenSpec.ofChange Rows.slotOneSpec) :=
  OpenClaim.holds_of_wide 4 Try.f4 rfl rfl rfl rfl rfl rfl rfl ⟨rfl, rfl, rfl, rfl, rfl⟩ rfl rfl rfl rfl rfl (by kernel_rfl) Try.func4 (by kernel_rfl)
    (of_decide_eq_true (by kernel_rfl)) (by unfold Func.isWrapper; first | (rw [if_pos (by decide +kernel)]; kernel_rfl) | (rw [if_neg (by decide +kernel)]; exact ⟨rfl, rfl⟩))
    (fun os started H enc _ => lifted os started H enc)

theorem proved : Rows.SlotOneSaid := over
#print axioms proved
end Go.Proofs.Ytamglfbgmfkgoaa.slotOne
