/- For every key the law SlotKnown returns true: known keys have their known slots, each slot is one, and is the sum of the tag. No condition. -/
import Derived.Test.YtamglfbgmfkgoaaRows
import Derived.Test.YtamglfbgmfkgoaaSlotOf
import Derived.ProofKit
import Derived.OpenShut
import Derived.ShutString
import Derived.SliceStrings
import Derived.ChangeOld
namespace Go.Proofs.Ytamglfbgmfkgoaa.slotKnown
open Go.ChangeShapes Go.WideShapes Go.ChangeAt Go.RowKit
open Go.ChangeMaps (open_string shut_string)
set_option linter.unusedVariables false

theorem own : ownKnob Try.prog.godebug = none := by kernel_rfl
theorem laidOut : laidOutB Try.prog = true := by kernel_rfl

theorem foo_slot : slotOf [102, 111, 111] = 12182 := by decide +kernel
theorem bar_slot : slotOf [98, 97, 114] = 5061 := by decide +kernel
theorem hello_slot : slotOf [104, 101, 108, 108, 111] = 866 := by decide +kernel
theorem empty_slot : slotOf [] = 0 := by decide +kernel

set_option maxRecDepth 100000 in
set_option maxHeartbeats 1000000 in
theorem walk (a0 : ByteArray) (w : World) (w0 : a0.size ≤ maxLen) :
    Calls Try.prog 7 #[.string a0] w fun e w' => e = .returned (.bool true) ∧ Below w.heap.size w w' := by
  have hs : a0.size ≤ 9223372036854775807 := by unfold maxLen at w0; omega
  by_cases h : 300 < a0.size
  · go_enter Try.func7, Try.ntmps7
    go_wp2_with fail
    refine (awake_walk _).mono ?_
    rintro e w1 ⟨rfl, hb⟩
    have HB := Lib.hid hb
    clear hb
    go_wp2
    go_ret
    exact ⟨rfl, HB.out⟩
  · have hconv := fun (w : World) (s : ByteArray) => Lib.run_convert_string_bytes (P := Try.prog) w 9 23 5 s Try.underlying9 Try.underlying23 Try.underlying5
    have htl : (⟨(Tags.tag a0.data.toList).toArray⟩ : ByteArray).size ≤ maxLen := by
      have := Tags.tag_len a0.data.toList
      have h2 : (⟨(Tags.tag a0.data.toList).toArray⟩ : ByteArray).size = (Tags.tag a0.data.toList).length := rfl
      rw [h2]
      simp at this; omega
    have HTL := Lib.hid htl
    clear htl
    have hlt := slotOf_lt a0.data.toList
    have hlt2 := Crc16.crc_lt (Tags.tag a0.data.toList)
    have he : ((Crc16.crc (Tags.tag a0.data.toList) : Int) % 16384) = ((slotOf a0.data.toList : Nat) : Int) := by unfold slotOf; omega
    have HE := Lib.hid he
    clear he
    go_enter Try.func7, Try.ntmps7
    go_wp2_with fail
    refine (of_walk a0 _ w0).mono ?_
    rintro e w1 ⟨rfl, hb⟩
    have HB1 := Lib.hid hb
    clear hb
    go_wp2_with fail
    refine (of_walk ⟨#[102, 111, 111]⟩ _ (by decide)).mono ?_
    rintro e w2 ⟨rfl, hb⟩
    have HB2 := Lib.hid (HB1.out.trans (hb.mono HB1.out.size))
    clear hb HB1
    simp only [foo_slot]
    go_wp2_with fail
    refine (of_walk ⟨#[98, 97, 114]⟩ _ (by decide)).mono ?_
    rintro e w3 ⟨rfl, hb⟩
    have HB3 := Lib.hid (HB2.out.trans (hb.mono HB2.out.size))
    clear hb HB2
    simp only [bar_slot]
    go_wp2_with fail
    refine (of_walk ⟨#[104, 101, 108, 108, 111]⟩ _ (by decide)).mono ?_
    rintro e w4 ⟨rfl, hb⟩
    have HB4 := Lib.hid (HB3.out.trans (hb.mono HB3.out.size))
    clear hb HB3
    simp only [hello_slot]
    go_wp2_with fail
    refine (of_walk ⟨#[]⟩ _ (by decide)).mono ?_
    rintro e w5 ⟨rfl, hb⟩
    have HB5 := Lib.hid (HB4.out.trans (hb.mono HB4.out.size))
    clear hb HB4
    simp only [empty_slot]
    go_wp2_with fail
    refine (tag_walk a0 _ w0).mono ?_
    rintro e w6 ⟨rfl, hb⟩
    have HB6 := Lib.hid (HB5.out.trans (hb.mono HB5.out.size))
    clear hb HB5
    go_wp2_with fail
    refine (crc_str ⟨(Tags.tag a0.data.toList).toArray⟩ _ _ _ HTL.out (bytes_bytesWorld w6 5 ⟨(Tags.tag a0.data.toList).toArray⟩)).mono ?_
    rintro e w7 ⟨rfl, rfl⟩
    have hB := below_bytesWorld w6 5 ⟨(Tags.tag a0.data.toList).toArray⟩
    generalize Lib.bytesWorld w6 5 ⟨(Tags.tag a0.data.toList).toArray⟩ = w7 at *
    have HB7 := Lib.hid (HB6.out.trans (hB.mono HB6.out.size))
    clear hB HB6 hconv
    have hev : ((slotOf a0.data.toList : Nat) : Int) = ((Crc16.crc (Tags.tag a0.data.toList) : Int) % 16384) := HE.out.symm
    go_wp2_with fail
    refine (awake_walk _).mono ?_
    rintro e w8 ⟨rfl, hb⟩
    have HB8 := Lib.hid (HB7.out.trans (hb.mono HB7.out.size))
    clear hb HB7
    go_wp2
    go_ret
    exact ⟨rfl, HB8.out⟩

set_option maxRecDepth 100000 in
theorem lifted (os : Os) (started : os.Started) (H : Type) (enc : TypeId × Value → H) :
    ReturnsInHanded {} Try.checked os 7 .any (Rows.slotKnownSpec.pre6 enc Try.prog Try.f7 Rows.slotKnownRow.domain false) (Rows.slotKnownSpec.post enc Try.prog Try.f7 false true false false) := by
  refine returnsInHanded_of_change (C := Try.checked) own started (by kernel_rfl) Try.func7
    (ChangeSpec.witness6 (enc := enc) (C := Try.checked) false ⟨#[], #[.string ByteArray.empty], []⟩ 8 (by kernel_rfl) (by kernel_rfl) (by kernel_rfl) (by kernel_rfl)) ?_
  intro W base args ds gs before hval0 hW hcnd _
  have hval : ∀ (j : Nat) t v, Try.f7.params[j]? = some t → args[j]? = some v → Value.okWide Try.prog W .any base t v := hval0
  have hW' := hW
  obtain ⟨p, q, hA0, hV, rfl, hfz, hnd⟩ := hW
  have hA : DataW.TrodAll enc Try.prog W 0 (fun _ => true) true Try.f7.params.toList args.toList ds p := hA0
  rw [Try.params7] at hA hval
  obtain ⟨v0, vs0, d0, ds0, p0, q0, hargs, rfl, rfl, h0, r0⟩ := trodAll_cons hA
  obtain ⟨rfl, rfl, rfl⟩ := trodAll_nil r0
  obtain rfl : args = #[v0] := by cases args; simp_all
  obtain ⟨rfl, rfl⟩ := trodVars_none hV
  obtain ⟨a0, rfl, rfl, rfl, w0⟩ := open_string Try.underlying9 (hval 0 9 v0 rfl rfl) h0
  clear hA0 hval0
  refine (walk a0 W w0).mono fun e W' ⟨he, bel⟩ => ?_
  subst he
  exact ⟨_, rfl, _, _, _, [], _, [], hW', trodAll_mk1 (shut_bool Try.underlying4 _), (trodAll_cons_mk (shut_string Try.underlying9 w0) trodAll_mk0), rfl, bel.frame _, fun h => by cases h⟩

theorem over : Rows.slotKnownRow.holds Try.pinned (OpenSpec.ofChange Rows.slotKnownSpec) :=
  OpenClaim.holds_of_wide 7 Try.f7 rfl rfl rfl rfl rfl rfl rfl ⟨rfl, rfl, rfl, rfl, rfl⟩ rfl rfl rfl rfl rfl (by kernel_rfl) Try.func7 (by kernel_rfl)
    (of_decide_eq_true (by kernel_rfl)) (by unfold Func.isWrapper; first | (rw [if_pos (by decide +kernel)]; kernel_rfl) | (rw [if_neg (by decide +kernel)]; exact ⟨rfl, rfl⟩))
    (fun os started H enc _ => lifted os started H enc)

theorem proved : Rows.SlotKnownSaid := over
#print axioms proved
end Go.Proofs.Ytamglfbgmfkgoaa.slotKnown
