/- For all texts the law SlotTags returns true: keys with one tag have one slot, whatever stands around it; without an end, or with nothing within, the whole key counts. No condition. -/
import Derived.Test.YtamglfbgmfkgoaaRows
import Derived.Test.YtamglfbgmfkgoaaSlotOf
import Derived.ProofKit
import Derived.OpenShut
import Derived.ShutString
import Derived.SliceStrings
import Derived.ChangeOld
namespace Go.Proofs.Ytamglfbgmfkgoaa.slotTags
open Go.ChangeShapes Go.WideShapes Go.ChangeAt Go.RowKit
open Go.ChangeMaps (open_string shut_string)
set_option linter.unusedVariables false

theorem own : ownKnob Try.prog.godebug = none := by kernel_rfl
theorem laidOut : laidOutB Try.prog = true := by kernel_rfl

/-- the walk ends in the awake call. -/
theorem walk_long (t a b : ByteArray) (w : World) (h1 : t.size ≤ 9223372036854775807) (h2 : a.size ≤ 9223372036854775807) (h3 : b.size ≤ 9223372036854775807) (h : 60 < t.size ∨ 60 < a.size ∨ 60 < b.size ∨ t.data.toList = []) :
    Calls Try.prog 5 #[.string t, .string a, .string b] w fun e w' => e = .returned (.bool true) ∧ Below w.heap.size w w' := by
  by_cases g1 : 60 < t.size
  · clear h
    go_enter Try.func5, Try.ntmps5
    go_wp2_with fail
    refine (awake_walk _).mono ?_
    rintro e w1 ⟨rfl, hb⟩
    have HB := Lib.hid hb
    clear hb
    go_wp2
    go_ret
    exact ⟨rfl, HB.out⟩
  · by_cases g2 : 60 < a.size
    · clear h
      go_enter Try.func5, Try.ntmps5
      go_wp2_with fail
      refine (awake_walk _).mono ?_
      rintro e w1 ⟨rfl, hb⟩
      have HB := Lib.hid hb
      clear hb
      go_wp2
      go_ret
      exact ⟨rfl, HB.out⟩
    · by_cases g3 : 60 < b.size
      · clear h
        go_enter Try.func5, Try.ntmps5
        go_wp2_with fail
        refine (awake_walk _).mono ?_
        rintro e w1 ⟨rfl, hb⟩
        have HB := Lib.hid hb
        clear hb
        go_wp2
        go_ret
        exact ⟨rfl, HB.out⟩
      · have h0 : t.data.toList = [] := by
          rcases h with h | h | h | h
          · exact absurd h g1
          · exact absurd h g2
          · exact absurd h g3
          · exact h
        obtain rfl : t = ⟨#[]⟩ := str_eq h0
        clear h h0 g1 h1
        go_enter Try.func5, Try.ntmps5
        go_wp2_with fail
        refine (awake_walk _).mono ?_
        rintro e w1 ⟨rfl, hb⟩
        have HB := Lib.hid hb
        clear hb
        go_wp2
        go_ret
        exact ⟨rfl, HB.out⟩

theorem one_pair {x y : ByteArray} (h : slotOf y.data.toList = slotOf x.data.toList) : oneOf [x, y] = some (slotOf x.data.toList) := by
  show (if _ then _ else _) = _
  rw [if_pos]
  simpa using h

theorem app (x y : ByteArray) : (x ++ y).data.toList = x.data.toList ++ y.data.toList := by simp

theorem key0 (t : ByteArray) : ((⟨#[123]⟩ : ByteArray) ++ t ++ ⟨#[125]⟩).data.toList = [] ++ 123 :: (t.data.toList ++ 125 :: []) := by simp
theorem key1 (t a b : ByteArray) : (a ++ (⟨#[123]⟩ : ByteArray) ++ t ++ ⟨#[125]⟩ ++ b).data.toList = a.data.toList ++ 123 :: (t.data.toList ++ 125 :: b.data.toList) := by simp
theorem key2 (a b : ByteArray) : (a ++ (⟨#[123, 125]⟩ : ByteArray) ++ b).data.toList = a.data.toList ++ 123 :: 125 :: b.data.toList := by simp
theorem key3 (t a : ByteArray) : (a ++ (⟨#[123]⟩ : ByteArray) ++ t).data.toList = a.data.toList ++ 123 :: t.data.toList := by simp

theorem tag_eq {k t : ByteArray} (h : Tags.tag k.data.toList = t.data.toList) : (⟨(Tags.tag k.data.toList).toArray⟩ : ByteArray) = t := str_eq' h

theorem size_le {x : ByteArray} {n : Nat} (h : x.data.toList.length ≤ n) (hn : n ≤ 1000) : x.size ≤ maxLen := by
  have : x.size = x.data.toList.length := by simp
  unfold maxLen; omega

set_option maxRecDepth 100000 in
set_option maxHeartbeats 1000000 in
theorem walk_short (t a b : ByteArray) (w : World) (h1 : t.size ≤ 60) (h2 : a.size ≤ 60) (h3 : b.size ≤ 60) (h0 : t.data.toList ≠ []) :
    Calls Try.prog 5 #[.string t, .string a, .string b] w fun e w' => e = .returned (.bool true) ∧ Below w.heap.size w w' := by
  have hne : t.toList.isEmpty = false := by
    rw [Lib.toList_data]
    cases h : t.data.toList with
    | nil => exact absurd h h0
    | cons x r => rfl
  have H0 := Lib.hid h0
  clear h0
  go_enter Try.func5, Try.ntmps5
  go_wp2_with fail
  go_loop [6, 7] (fun r i => ∃ n : Nat, n ≤ t.size ∧ r = .bool false ∧ i = .int .i64 n ∧ Hid (125 ∉ t.data.toList.take n)) (fun _ i => t.size - (intOf i).toNat)
  case atStart => exact ⟨0, Nat.zero_le _, rfl, rfl, Lib.hid (by simp)⟩
  case round =>
    obtain ⟨n, hn, rfl, rfl, HN⟩ := hrel
    by_cases h : n < t.size
    · have hL : n < t.data.toList.length := by simpa using h
      have eL : t.data.toList[n] = t[n] := by simp; rfl
      go_wp2_with fail
      · refine (awake_walk _).mono ?_
        rintro e w1 ⟨rfl, hb⟩
        have HB := Lib.hid hb
        clear hb
        go_wp2
        go_ret
        exact ⟨rfl, HB.out⟩
      · have ht : ((t[n].toNat : Int) == 125) = false := by assumption
        have hne2 : t.data.toList[n] ≠ 125 := by
          rw [eL]
          exact Tags.u8_ne (k := 125) (by decide) ht
        go_round
        case rel => exact ⟨n + 1, by omega, rfl, by go_num, Lib.hid (Tags.notin_succ hL HN.out hne2)⟩
        case measure => simp [intOf]; omega
    · have hT : 125 ∉ t.data.toList := by
        have := HN.out
        rw [List.take_of_length_le (by simp; omega)] at this
        exact this
      have HT := Lib.hid hT
      clear hT HN
      go_wp2_with fail
      go_loop [6, 8] (fun r i => ∃ n : Nat, n ≤ a.size ∧ r = .bool false ∧ i = .int .i64 n ∧ Hid (123 ∉ a.data.toList.take n)) (fun _ i => a.size - (intOf i).toNat)
      case atStart => exact ⟨0, Nat.zero_le _, rfl, rfl, Lib.hid (by simp)⟩
      case round =>
        obtain ⟨m, hm, rfl, rfl, HM⟩ := hrel
        by_cases h : m < a.size
        · have hL : m < a.data.toList.length := by simpa using h
          have eL : a.data.toList[m] = a[m] := by simp; rfl
          go_wp2_with fail
          · refine (awake_walk _).mono ?_
            rintro e w1 ⟨rfl, hb⟩
            have HB := Lib.hid hb
            clear hb
            go_wp2
            go_ret
            exact ⟨rfl, HB.out⟩
          · have ht : ((a[m].toNat : Int) == 123) = false := by assumption
            have hne2 : a.data.toList[m] ≠ 123 := by
              rw [eL]
              exact Tags.u8_ne (k := 123) (by decide) ht
            go_round
            case rel => exact ⟨m + 1, by omega, rfl, by go_num, Lib.hid (Tags.notin_succ hL HM.out hne2)⟩
            case measure => simp [intOf]; omega
        · have hA : 123 ∉ a.data.toList := by
            have := HM.out
            rw [List.take_of_length_le (by simp; omega)] at this
            exact this
          have HA := Lib.hid hA
          clear hA HM
          have z0 : ((⟨#[123]⟩ : ByteArray) ++ t ++ ⟨#[125]⟩).size ≤ maxLen := size_le (n := 400) (by rw [key0]; simp; omega) (by decide)
          have z1 : (a ++ (⟨#[123]⟩ : ByteArray) ++ t ++ ⟨#[125]⟩ ++ b).size ≤ maxLen := size_le (n := 400) (by rw [key1]; simp; omega) (by decide)
          have z2 : (a ++ (⟨#[123, 125]⟩ : ByteArray) ++ b).size ≤ maxLen := size_le (n := 400) (by rw [key2]; simp; omega) (by decide)
          have z3 : (a ++ (⟨#[123]⟩ : ByteArray) ++ t).size ≤ maxLen := size_le (n := 400) (by rw [key3]; simp; omega) (by decide)
          have t0 : Tags.tag ((⟨#[123]⟩ : ByteArray) ++ t ++ ⟨#[125]⟩).data.toList = t.data.toList := by rw [key0]; exact Tags.tag_within (by simp) HT.out H0.out
          have t1 : Tags.tag (a ++ (⟨#[123]⟩ : ByteArray) ++ t ++ ⟨#[125]⟩ ++ b).data.toList = t.data.toList := by rw [key1]; exact Tags.tag_within HA.out HT.out H0.out
          have t2 : Tags.tag (a ++ (⟨#[123, 125]⟩ : ByteArray) ++ b).data.toList = (a ++ (⟨#[123, 125]⟩ : ByteArray) ++ b).data.toList := by rw [key2]; exact Tags.tag_nothing HA.out
          have t3 : Tags.tag (a ++ (⟨#[123]⟩ : ByteArray) ++ t).data.toList = (a ++ (⟨#[123]⟩ : ByteArray) ++ t).data.toList := by rw [key3]; exact Tags.tag_noend HA.out HT.out
          have hone : oneOf [(⟨#[123]⟩ : ByteArray) ++ t ++ ⟨#[125]⟩, a ++ (⟨#[123]⟩ : ByteArray) ++ t ++ ⟨#[125]⟩ ++ b] = some (slotOf ((⟨#[123]⟩ : ByteArray) ++ t ++ ⟨#[125]⟩).data.toList) := by
            refine one_pair ?_
            unfold slotOf
            rw [t0, t1]
          have HONE := Lib.hid hone
          have Z0 := Lib.hid z0
          have Z1 := Lib.hid z1
          have Z2 := Lib.hid z2
          have Z3 := Lib.hid z3
          have T1 := Lib.hid (tag_eq t1)
          have T2 := Lib.hid (tag_eq t2)
          have T3 := Lib.hid (tag_eq t3)
          clear z0 z1 z2 z3 t0 t1 t2 t3 hone
          go_wp2_with fail
          have hstr : Strs (w.alloc (.cells #[.string ((⟨#[123]⟩ : ByteArray) ++ t ++ ⟨#[125]⟩), .string (a ++ (⟨#[123]⟩ : ByteArray) ++ t ++ ⟨#[125]⟩ ++ b)] 9)) (some ⟨w.heap.size, 0, none⟩) 2 [(⟨#[123]⟩ : ByteArray) ++ t ++ ⟨#[125]⟩, a ++ (⟨#[123]⟩ : ByteArray) ++ t ++ ⟨#[125]⟩ ++ b] := by
            refine ⟨Nat.le_refl _, ?_, .inr ⟨w.heap.size, 0, rfl, by simp, ?_⟩⟩
            · intro s hs
              rcases List.mem_cons.1 hs with h | h
              · rw [h]; exact Z0.out
              · rw [List.mem_singleton.1 h]; exact Z1.out
            · intro k hk
              rw [Nat.zero_add, World.cell?_alloc_new]
              match k, hk with
              | 0, _ => rfl
              | 1, _ => rfl
          have hc := one_any (some ⟨w.heap.size, 0, none⟩) 2 [(⟨#[123]⟩ : ByteArray) ++ t ++ ⟨#[125]⟩, a ++ (⟨#[123]⟩ : ByteArray) ++ t ++ ⟨#[125]⟩ ++ b] _ (by simp) hstr
          rw [HONE.out] at hc
          refine hc.mono ?_
          rintro e w1 ⟨rfl, hb⟩
          have HB1 := Lib.hid ((Below.refl w.heap.size w).alloc (Nat.le_refl _) (.cells #[.string ((⟨#[123]⟩ : ByteArray) ++ t ++ ⟨#[125]⟩), .string (a ++ (⟨#[123]⟩ : ByteArray) ++ t ++ ⟨#[125]⟩ ++ b)] 9) |>.trans (hb.mono (by simp)))
          clear hb hc hstr
          simp only [oneVal]
          go_wp2_with fail
          refine (of_walk _ _ Z0.out).mono ?_
          rintro e w2 ⟨rfl, hb⟩
          have HB2 := Lib.hid (HB1.out.trans (hb.mono HB1.out.size))
          clear hb HB1
          go_wp2_with fail
          refine (tag_walk _ _ Z1.out).mono ?_
          rintro e w3 ⟨rfl, hb⟩
          have HB3 := Lib.hid (HB2.out.trans (hb.mono HB2.out.size))
          clear hb HB2
          rw [T1.out]
          go_wp2_with fail
          refine (tag_walk _ _ Z2.out).mono ?_
          rintro e w4 ⟨rfl, hb⟩
          have HB4 := Lib.hid (HB3.out.trans (hb.mono HB3.out.size))
          clear hb HB3
          rw [T2.out]
          go_wp2_with fail
          refine (tag_walk _ _ Z3.out).mono ?_
          rintro e w5 ⟨rfl, hb⟩
          have HB5 := Lib.hid (HB4.out.trans (hb.mono HB4.out.size))
          clear hb HB4
          rw [T3.out]
          go_wp2_with fail
          refine (awake_walk _).mono ?_
          rintro e w6 ⟨rfl, hb⟩
          have HB6 := Lib.hid (HB5.out.trans (hb.mono HB5.out.size))
          clear hb HB5
          go_wp2
          go_ret
          exact ⟨rfl, HB6.out⟩

theorem walk (t a b : ByteArray) (w : World) (w0 : t.size ≤ maxLen) (w1 : a.size ≤ maxLen) (w2 : b.size ≤ maxLen) :
    Calls Try.prog 5 #[.string t, .string a, .string b] w fun e w' => e = .returned (.bool true) ∧ Below w.heap.size w w' := by
  have h1 : t.size ≤ 9223372036854775807 := by unfold maxLen at w0; omega
  have h2 : a.size ≤ 9223372036854775807 := by unfold maxLen at w1; omega
  have h3 : b.size ≤ 9223372036854775807 := by unfold maxLen at w2; omega
  by_cases h : 60 < t.size ∨ 60 < a.size ∨ 60 < b.size ∨ t.data.toList = []
  · exact walk_long t a b w h1 h2 h3 h
  · refine walk_short t a b w ?_ ?_ ?_ (fun h0 => h (.inr (.inr (.inr h0))))
    · exact Nat.le_of_not_lt fun g => h (.inl g)
    · exact Nat.le_of_not_lt fun g => h (.inr (.inl g))
    · exact Nat.le_of_not_lt fun g => h (.inr (.inr (.inl g)))

set_option maxRecDepth 100000 in
theorem lifted (os : Os) (started : os.Started) (H : Type) (enc : TypeId × Value → H) :
    ReturnsInHanded {} Try.checked os 5 .any (Rows.slotTagsSpec.pre6 enc Try.prog Try.f5 Rows.slotTagsRow.domain false) (Rows.slotTagsSpec.post enc Try.prog Try.f5 false true false false) := by
  refine returnsInHanded_of_change (C := Try.checked) own started (by kernel_rfl) Try.func5
    (ChangeSpec.witness6 (enc := enc) (C := Try.checked) false ⟨#[], #[.string ByteArray.empty, .string ByteArray.empty, .string ByteArray.empty], []⟩ 8 (by kernel_rfl) (by kernel_rfl) (by kernel_rfl) (by kernel_rfl)) ?_
  intro W base args ds gs before hval0 hW hcnd _
  have hval : ∀ (j : Nat) t v, Try.f5.params[j]? = some t → args[j]? = some v → Value.okWide Try.prog W .any base t v := hval0
  have hW' := hW
  obtain ⟨p, q, hA0, hV, rfl, hfz, hnd⟩ := hW
  have hA : DataW.TrodAll enc Try.prog W 0 (fun _ => true) true Try.f5.params.toList args.toList ds p := hA0
  rw [Try.params5] at hA hval
  obtain ⟨v0, vs0, d0, ds0, p0, q0, hargs, rfl, rfl, h0, r0⟩ := trodAll_cons hA
  obtain ⟨v1, vs1, d1, ds1, p1, q1, rfl, rfl, rfl, h1, r1⟩ := trodAll_cons r0
  obtain ⟨v2, vs2, d2, ds2, p2, q2, rfl, rfl, rfl, h2, r2⟩ := trodAll_cons r1
  obtain ⟨rfl, rfl, rfl⟩ := trodAll_nil r2
  obtain rfl : args = #[v0, v1, v2] := by cases args; simp_all
  obtain ⟨rfl, rfl⟩ := trodVars_none hV
  obtain ⟨a0, rfl, rfl, rfl, w0⟩ := open_string Try.underlying9 (hval 0 9 v0 rfl rfl) h0
  obtain ⟨a1, rfl, rfl, rfl, w1⟩ := open_string Try.underlying9 (hval 1 9 v1 rfl rfl) h1
  obtain ⟨a2, rfl, rfl, rfl, w2⟩ := open_string Try.underlying9 (hval 2 9 v2 rfl rfl) h2
  clear hA0 hval0
  refine (walk a0 a1 a2 W w0 w1 w2).mono fun e W' ⟨he, bel⟩ => ?_
  subst he
  exact ⟨_, rfl, _, _, _, [], _, [], hW', trodAll_mk1 (shut_bool Try.underlying4 _), (trodAll_cons_mk (shut_string Try.underlying9 w0) (trodAll_cons_mk (shut_string Try.underlying9 w1) (trodAll_cons_mk (shut_string Try.underlying9 w2) trodAll_mk0))), rfl, bel.frame _, fun h => by cases h⟩

theorem over : Rows.slotTagsRow.holds Try.pinned (OpenSpec.ofChange Rows.slotTagsSpec) :=
  OpenClaim.holds_of_wide 5 Try.f5 rfl rfl rfl rfl rfl rfl rfl ⟨rfl, rfl, rfl, rfl, rfl⟩ rfl rfl rfl rfl rfl (by kernel_rfl) Try.func5 (by kernel_rfl)
    (of_decide_eq_true (by kernel_rfl)) (by unfold Func.isWrapper; first | (rw [if_pos (by decide +kernel)]; kernel_rfl) | (rw [if_neg (by decide +kernel)]; exact ⟨rfl, rfl⟩))
    (fun os started H enc _ => lifted os started H enc)

theorem proved : Rows.SlotTagsSaid := over
#print axioms proved
end Go.Proofs.Ytamglfbgmfkgoaa.slotTags
