/- ClaimsParts: what all nodes own together is what is claimed. -/
import Derived.Test.YtchladbjhodkoaaRows
import Derived.Test.YtchladbjhodkoaaOwParts
import Derived.Test.YtchladbjhodkoaaOwWhere
import Derived.Test.YtchladbjhodkoaaOwMasters
import Derived.Test.YtchladbjhodkoaaOwMake
import Derived.Test.YtchladbjhodkoaaOwAwake
import Derived.Test.YtchladbjhodkoaaOwAdded
import Derived.Test.YtchladbjhodkoaaMake
import Derived.Test.YtchladbjhodkoaaSpRef
import Derived.Test.YtchladbjhodkoaaSpMay
import Derived.ProofKit
import Derived.OpenShut
import Derived.ShutString
import Derived.SliceStrings
import Derived.ChangeOld
namespace Go.Proofs.Ytchladbjhodkoaa.claimsParts
open Go.ChangeShapes Go.WideShapes Go.ChangeAt Go.RowKit
open Go.ChangeMaps (open_string shut_string)
set_option linter.unusedVariables false

theorem own : ownKnob Try.prog.godebug = none := by kernel_rfl
theorem laidOut : laidOutB Try.prog = true := by kernel_rfl

/-- spans in a row of the call's own. -/
def ORow (B : Nat) (w : World) (v : Value) (zs : List Sp.S) : Prop := w.ownsRow B 51 2 v zs.length (flat2 zs)
theorem ORow.later {B : Nat} {w w' : World} {v : Value} {zs : List Sp.S} (h : ORow B w v zs) (hb : Below w.heap.size w w') : ORow B w' v zs := owns_below h hb
def GRow (w wr : World) (v : Value) (zs : List Sp.S) : Prop := ORow w.heap.size wr v zs ∧ Below w.heap.size w wr

theorem flat2_app (a b : List Sp.S) : flat2 (a ++ b) = flat2 a ++ flat2 b := by simp [flat2]

theorem flat2_ones (l : List Sp.S) : ∀ u ∈ flat2 l, u.oneCell' = true := by
  intro u hu
  unfold flat2 at hu
  obtain ⟨s, _, hs⟩ := List.mem_flatMap.1 hu
  simp [enc2] at hs
  rcases hs with rfl | rfl <;> rfl

theorem spans_news {w : World} {ad : Addr} {cap : Nat} {l : List Sp.S} (h : Spans w (some ad) cap l) : ∀ j u, (flat2 l)[j]? = some u → w.cell? (ad.add j) = some u := by
  intro j u hu
  rcases h.2.2.2 with rfl | ⟨b, off, he, _, hc⟩
  · simp [flat2] at hu
  · cases he
    have hj : j < l.length * 2 := by rw [← flat2_length]; exact (List.getElem?_eq_some_iff.1 hu).1
    have e3 : ((⟨b, off, none⟩ : Addr).add j) = ⟨b, off + j, none⟩ := by by_cases hj0 : j = 0 <;> simp [Addr.add, hj0]
    rw [e3]
    clear e3
    obtain ⟨k, hk2⟩ : ∃ k, j = k * 2 ∨ j = k * 2 + 1 := ⟨j / 2, by omega⟩
    have hk : k < l.length := by omega
    have hg := flat2_get l k hk
    have hd := hc k hk
    have hl : l.getD k (0, 0) = l[k] := by simp [List.getD, hk]
    rw [hl] at hd
    rcases hk2 with h2 | h2
    · rw [h2, hg.1] at hu
      cases hu
      rw [h2]
      exact hd.1
    · rw [h2, hg.2] at hu
      cases hu
      rw [h2, ← Nat.add_assoc]
      exact hd.2

theorem grow_app {w wr w1 : World} {v v' : Value} {zs os : List Sp.S} (hB : Below w.heap.size w wr) (hown : ORow w.heap.size wr v zs) (h1 : w1.ownsRow w.heap.size 51 2 v' (zs.length + os.length) (flat2 zs ++ flat2 os)) (hg : wr.grownBy w1 v.ownBlock) : GRow w w1 v' (zs ++ os) := by
  refine ⟨?_, hB.grown hg hB.size fun k hk => (World.ownsRow.lt hown k hk).1⟩
  unfold ORow
  rw [flat2_app, List.length_append]
  exact h1

theorem spL_ints {l : List Ow.C} (h : ∀ c ∈ l, Ow.FitC c) : ∀ s ∈ spL l, -9223372036854775808 ≤ s.1 ∧ s.1 ≤ 9223372036854775807 ∧ -9223372036854775808 ≤ s.2 ∧ s.2 ≤ 9223372036854775807 := by
  intro s hs
  obtain ⟨c, hc, rfl⟩ := List.mem_map.1 hs
  have := h c hc
  unfold Ow.FitC at this
  exact ⟨this.1, this.2.1, this.2.2.1, this.2.2.2.1⟩

set_option maxRecDepth 100000 in
set_option maxHeartbeats 2000000 in
theorem walk (a : Option Addr) (cap : Nat) (aS : List Int) (w : World) (hA : U16s w a cap aS) :
    Calls Try.prog 7 #[.slice a aS.length cap] w fun e w' => e = .returned (.bool true) ∧ Below w.heap.size w w' := by
  obtain ⟨i0, hi, hz0, hz1, hz2⟩ := info_parts infoSpan
  have l1 := hA.1
  have l2 := hA.2.1
  by_cases h1 : (60 : Int) < (aS.length : Int)
  · skip
    clear hA
    go_enter Try.func7, Try.ntmps7
    go_wp2_with (go_at_call 9; refine (awake_any _).mono ?_; rintro e w1 ⟨rfl, hb⟩; have HB := Lib.hid hb; clear hb)
    go_ret
    exact ⟨rfl, HB.out⟩
  have UA := Lib.hid hA
  have n1 : aS.length ≤ 1000 := by omega
  clear hA
  go_enter Try.func7, Try.ntmps7
  go_wp2_with fail
  refine (makeC_any _ _ _ _ n1 UA.out).mono ?_
  rintro en v1 ⟨a1, p1, la, rfl, va, hc, hb⟩
  have HB1 := Lib.hid hb
  have LUA_1 := Lib.hid (UA.out.later hb)
  have LA_1 := Lib.hid hc
  clear hb hc
  have VA := Lib.hid va.1
  clear va
  have al := VA.out.len
  have q1 := LA_1.out.1
  have r1 := LA_1.out.2.1
  go_wp2
  go_loopw [5, 7] (fun v i wr => ∃ (k : Nat) (sv : Value), k ≤ la.length ∧ i = .int .i64 k ∧ sv = v ∧ Hid (Gathered v1 wr sv (spL (la.take k)))) (fun _ i _ => la.length - (intOf i).toNat)
  case atStart => exact ⟨0, _, Nat.zero_le _, rfl, rfl, Lib.hid ⟨⟨rfl, .inl ⟨rfl, rfl⟩⟩, by simp [spL], Below.refl _ _⟩⟩
  case round =>
    obtain ⟨k, sv, hk, rfl, rfl, HG⟩ := hrel
    by_cases hlt : k < la.length
    · obtain ⟨b, off, rfl, hb, c1, c2, c3, c4⟩ := (LA_1.out.later HG.out.2.2).cells hlt
      have hsn := spL_snoc hlt
      have hkl : (spL (la.take k)).length ≤ 50000 := by simp [spL]; omega
      have k0 : (0 : Int) ≤ (k : Int) := by omega
      have k1 : (k : Int) < (la.length : Int) := by omega
      generalize la.getD k Ow.z = c at c1 c2 c3 c4 hsn
      obtain ⟨f, t, m, e⟩ := c
      simp only at c1 c2 c3 c4 hsn
      have HSN := Lib.hid hsn
      have HO := Lib.hid HG.out.1
      have HB := Lib.hid HG.out.2.2
      have hsz := HG.out.2.2.size
      clear hsn c3 c4
      obtain ⟨b', off', hbe, hbw, -⟩ := LA_1.out.cells hlt
      cases hbe
      have hne : some b ≠ sv.ownBlock := fun e => by have := (HO.out.lt b e.symm).1; omega
      go_upto_region 9 with (fail)
      go_region_held3 (fun w' => w'.cell? ⟨b, off + k * 4, none⟩ = some (.int .i64 f) ∧ w'.cell? ⟨b, off + k * 4 + 1, none⟩ = some (.int .i64 t))
        (first
          | go_keep
          | (go_split_ands
             refine ⟨?_, ?_⟩
             · (rw [hgrow.cell_far _ (by simp; omega) hne]; assumption)
             · (rw [hgrow.cell_far _ (by simp; omega) hne]; assumption)))
        ((refine step_append_lies _ (by rfl) _ _ _ (by rfl) v1.heap.size 51 i0 _ 2 16 Try.underlying23 hi hz0 hz1 hz2 rfl (by omega) sv (spL (la.take k)).length (flat2 (spL (la.take k))) (by rfl) ((HO.out.alloc _).drew) ⟨wr.heap.size, 0, none⟩ 1 1 [.int .i64 f, .int .i64 t] (by rfl) (by rfl) (World.news_of_block (cs := #[.int .i64 f, .int .i64 t]) (t := 51) (fr := (0, 0)) (heap_alloc_new wr _)) (by simp [Value.oneCell']) (by omega) (by unfold maxLen; omega) (by omega) (by simp; omega) (wr.heap.size + 1) (by simp) ?_; intro gg capg w2 hown hgrow hat hltg))
      have hG := gathered_snoc (wa := (wr.alloc (.cells #[.int .i64 f, .int .i64 t] 51)).drew) HB.out HO.out (((Below.refl _ wr).alloc hsz _).drew) hown hgrow (by simp)
      have HG1 := Lib.hid hG
      clear hG hown hgrow hat hltg
      go_wp2
      go_roundw
      case rel => exact ⟨k + 1, _, by omega, by go_num, rfl, Lib.hid (by rw [HSN.out]; exact HG1.out)⟩
      case measure => simp [intOf]; omega
    · have hall : la.take k = la := List.take_of_length_le (by omega)
      rw [hall] at HG
      have hsl : (spL la).length ≤ 100000 := by simp [spL]; omega
      obtain ⟨a5, p5, rfl, hsp, -⟩ := spans_of_row HG.out.1 (by omega) (spL_ints LA_1.out.2.2.1)
      have HBQ := Lib.hid (HB1.out.trans (HG.out.2.2.mono HB1.out.size))
      have LAQ := Lib.hid (LA_1.out.later HG.out.2.2)
      have LSQ := Lib.hid hsp
      have s5 := hsp.1
      have s6 := hsp.2.1
      clear HG hsp hall
      obtain ⟨wq, hwq⟩ : ∃ x, x = wr := ⟨_, rfl⟩
      subst hwq
      have HVN : Hid (∀ c ∈ la, 0 ≤ c.n ∧ c.n < 8) := Lib.hid fun c hc => by have := VA.out.all c hc; unfold Ow.okC at this; omega
      have HMS := Lib.hid (fun w' h => masters_any a1 p1 la w' (by omega) h HVN.out)
      have hmlen : (mastS la).length ≤ 8 := mastUp_len la 8
      go_wp2_with fail
      refine (HMS.out _ LAQ.out).mono ?_
      rintro en v2 ⟨am, pm, rfl, hin, hb⟩
      have HB2 := Lib.hid (HBQ.out.trans (hb.mono HBQ.out.size))
      have LA_2 := Lib.hid (LAQ.out.later hb)
      have LS_2 := Lib.hid (LSQ.out.later hb)
      have LM_2 := Lib.hid hin
      clear hb hin
      clear HMS
      have m1 := LM_2.out.1
      go_wp2
      go_loopw [4, 6, 9] (fun v c i wr => ∃ (n : Nat) (sv : Value), n ≤ 8 ∧ i = .int .i64 n ∧ c = .int .i64 (cntUp la n) ∧ sv = v ∧ Hid (GRow v2 wr sv (partsUp la n))) (fun _ _ i _ => 8 - (intOf i).toNat)
      case atStart => exact ⟨0, _, by omega, rfl, rfl, rfl, Lib.hid ⟨⟨rfl, .inl ⟨rfl, rfl⟩⟩, Below.refl _ _⟩⟩
      case round =>
        obtain ⟨n, sv, hn, rfl, rfl, rfl, HG⟩ := hrel
        by_cases h8 : n < 8
        · have n0 : (n : Int) < 8 := by omega
          have hcb := cntUp_bound VA.out n
          have hcc := cntUp_bound VA.out (n + 1)
          have hpl := parts_len la (n + 1)
          have hmi := mast_iff VA.out h8
          have HWN := Lib.hid (fun w' h => owned_where a1 p1 la (n : Int) w' (by omega) h)
          have hov := ownS_valid la (n : Int)
          rw [cntUp] at hcc
          rw [partsUp, cntUp, List.length_append] at hpl
          have HPU : Hid (partsUp la (n + 1) = partsUp la n ++ ownS la (n : Int)) := Lib.hid rfl
          have HCU : Hid (cntUp la (n + 1) = cntUp la n + countS (ownS la (n : Int))) := Lib.hid rfl
          have LRr := Lib.hid HG.out.1
          have HBr := Lib.hid HG.out.2
          have LAr := Lib.hid (LA_2.out.later HG.out.2)
          have LMr := Lib.hid (LM_2.out.later HG.out.2)
          clear HG
          have hol : (ownS la (n : Int)).length ≤ 100000 := by omega
          unfold ownS at hcc hpl hmi hov HPU HCU hol
          generalize Sp.mixS 0 (ownedL la (n : Int)) [] = os at *
          have HMI := Lib.hid hmi
          have HOV := Lib.hid hov
          have ecn : IntKind.i64.wrap (cntUp la n + countS os) = cntUp la n + countS os := IntWalk.i64_in _ (by omega)
          have hpl2 : (partsUp la n).length + os.length ≤ 16384 := by omega
          clear hmi hov hpl
          go_wp2_with fail
          refine (HWN.out _ LAr.out).mono ?_
          rintro en v3 ⟨a3, p3, rfl, hs, hz9, hb⟩
          have HB3 := Lib.hid (HBr.out.trans (hb.mono HBr.out.size))
          have LA_3 := Lib.hid (LAr.out.later hb)
          have LM_3 := Lib.hid (LMr.out.later hb)
          have LR_3 := Lib.hid (LRr.out.later hb)
          have LO_3 := Lib.hid hs
          clear hb hs
          have HZ9 := Lib.hid hz9
          clear hz9 HWN
          have o1 := LO_3.out.1
          have o2 := LO_3.out.2.1
          go_wp2
          go_loop [11, 12] (fun f i => ∃ (k : Nat) (bv : Bool), k ≤ (mastS la).length ∧ f = .bool bv ∧ i = .int .i64 k ∧ Hid (bv = decide ((n : Int) ∈ (mastS la).take k))) (fun _ i => (mastS la).length - (intOf i).toNat)
          case atStart => exact ⟨0, false, Nat.zero_le _, rfl, rfl, Lib.hid (by simp)⟩
          case round =>
            obtain ⟨k, bv, hk, rfl, rfl, HK⟩ := hrel
            by_cases hlt : k < (mastS la).length
            · have hne : mastS la ≠ [] := fun h => by rw [h] at hlt; simp at hlt
              obtain ⟨mb, mo, rfl, hmb, -, -, hmc⟩ := Ints.some LM_3.out hne
              have cm := hmc k hlt
              obtain ⟨x, hx⟩ : ∃ x, (mastS la).getD k 0 = x := ⟨_, rfl⟩
              rw [hx] at cm
              have HT : Hid ((mastS la).take (k + 1) = (mastS la).take k ++ [x]) := Lib.hid (by
                rw [List.take_succ_eq_append_getElem hlt, ← hx]
                simp [List.getD, hlt])
              have k0 : (0 : Int) ≤ (k : Int) := by omega
              have k1 : (k : Int) < ((mastS la).length : Int) := by omega
              have ek : IntKind.i64.wrap ((k : Int) + 1) = (k : Int) + 1 := IntWalk.i64_in _ (by omega)
              clear hmc hne hx
              cases bv with
              | true =>
                have HN : Hid ((n : Int) ∈ (mastS la).take (k + 1)) := Lib.hid (by
                  have := HK.out
                  rw [eq_comm, decide_eq_true_eq] at this
                  rw [HT.out]
                  exact List.mem_append_left _ this)
                go_wp2
                go_round
                case rel => exact ⟨k + 1, true, by omega, rfl, by go_num, Lib.hid (by rw [decide_eq_true HN.out])⟩
                case measure => simp [intOf]; omega
              | false =>
                have HN : Hid ((n : Int) ∉ (mastS la).take k) := Lib.hid (by
                  have := HK.out
                  rwa [eq_comm, decide_eq_false_iff_not] at this)
                by_cases hxn : x = (n : Int)
                · have HN2 : Hid ((n : Int) ∈ (mastS la).take (k + 1)) := Lib.hid (by rw [HT.out, hxn]; simp)
                  have hbq : (x == (n : Int)) = true := by rw [beq_iff_eq]; exact hxn
                  clear hxn
                  go_wp2
                  go_round
                  case rel => exact ⟨k + 1, true, by omega, rfl, by go_num, Lib.hid (by rw [decide_eq_true HN2.out])⟩
                  case measure => simp [intOf]; omega
                · have HN2 : Hid ((n : Int) ∉ (mastS la).take (k + 1)) := Lib.hid (by
                    rw [HT.out, List.mem_append, List.mem_singleton]
                    rintro (h | h)
                    · exact HN.out h
                    · exact hxn h.symm)
                  have hbq : (x == (n : Int)) = false := by rw [beq_eq_false_iff_ne]; exact hxn
                  clear hxn
                  go_wp2
                  go_round
                  case rel => exact ⟨k + 1, false, by omega, rfl, by go_num, Lib.hid (by rw [decide_eq_false HN2.out])⟩
                  case measure => simp [intOf]; omega
            · have hbv : bv = decide ((n : Int) ∈ mastS la) := by
                have := HK.out
                rwa [List.take_of_length_le (by omega)] at this
              clear HK
              by_cases hoe : os = []
              · obtain rfl : bv = false := by rw [hbv, decide_eq_false_iff_not, HMI.out]; exact fun h => h hoe
                clear hbv HMI
                have zl : ¬ (0 : Int) < (os.length : Int) := by rw [hoe]; simp
                have zd : decide ((0 : Int) < (os.length : Int)) = false := by rw [decide_eq_false_iff_not]; exact zl
                cases a3 with
                | none =>
                  obtain rfl : p3 = 0 := HZ9.out rfl
                  subst hoe
                  have HMY := Lib.hid (refMay_any _ _ ([] : List Sp.S) _ LO_3.out)
                  rw [@decide_eq_true _ (Classical.propDecidable _) HOV.out] at HMY
                  go_wp2_with fail
                  refine (HMY.out).mono ?_
                  rintro en v4 ⟨rfl, hb⟩
                  have HB4 := Lib.hid (HB3.out.trans (hb.mono HB3.out.size))
                  have LA_4 := Lib.hid (LA_3.out.later hb)
                  have LM_4 := Lib.hid (LM_3.out.later hb)
                  have LR_4 := Lib.hid (LR_3.out.later hb)
                  have LO_4 := Lib.hid (LO_3.out.later hb)
                  clear hb 
                  clear HMY
                  have HCT := Lib.hid (refCount_any _ _ ([] : List Sp.S) _ hol LO_4.out)
                  go_wp2_with fail
                  refine (HCT.out).mono ?_
                  rintro en v5 ⟨rfl, hb⟩
                  have HB5 := Lib.hid (HB4.out.trans (hb.mono HB4.out.size))
                  have LA_5 := Lib.hid (LA_4.out.later hb)
                  have LM_5 := Lib.hid (LM_4.out.later hb)
                  have LR_5 := Lib.hid (LR_4.out.later hb)
                  have LO_5 := Lib.hid (LO_4.out.later hb)
                  clear hb 
                  clear HCT
                  go_wp2_with (at_builtin; refine wpList_append_own_none rfl (.tmp 77) (.tmp 78) 23 rfl v2.heap.size 51 i0 2 Try.underlying23 hi _ _ _ rfl LR_5.out rfl ?_)
                  go_roundw
                  case rel => exact ⟨n + 1, _, by omega, by go_num, by rw [HCU.out], rfl, Lib.hid (by rw [HPU.out, List.append_nil]; exact ⟨LR_5.out, HB5.out⟩)⟩
                  case measure => simp [intOf]; omega
                | some ad =>
                  subst hoe
                  have HMY := Lib.hid (refMay_any _ _ ([] : List Sp.S) _ LO_3.out)
                  rw [@decide_eq_true _ (Classical.propDecidable _) HOV.out] at HMY
                  go_wp2_with fail
                  refine (HMY.out).mono ?_
                  rintro en v4 ⟨rfl, hb⟩
                  have HB4 := Lib.hid (HB3.out.trans (hb.mono HB3.out.size))
                  have LA_4 := Lib.hid (LA_3.out.later hb)
                  have LM_4 := Lib.hid (LM_3.out.later hb)
                  have LR_4 := Lib.hid (LR_3.out.later hb)
                  have LO_4 := Lib.hid (LO_3.out.later hb)
                  clear hb 
                  clear HMY
                  have HCT := Lib.hid (refCount_any _ _ ([] : List Sp.S) _ hol LO_4.out)
                  go_wp2_with fail
                  refine (HCT.out).mono ?_
                  rintro en v5 ⟨rfl, hb⟩
                  have HB5 := Lib.hid (HB4.out.trans (hb.mono HB4.out.size))
                  have LA_5 := Lib.hid (LA_4.out.later hb)
                  have LM_5 := Lib.hid (LM_4.out.later hb)
                  have LR_5 := Lib.hid (LR_4.out.later hb)
                  have LO_5 := Lib.hid (LO_4.out.later hb)
                  clear hb 
                  clear HCT
                  have hbs := HB5.out.size
                  go_wp2_with (at_builtin; refine wpList_append_own _ rfl (.tmp 77) (.tmp 78) 23 rfl v2.heap.size 51 i0 (.agg #[.int .i64 0, .int .i64 0]) 2 16 Try.underlying23 hi hz0 hz1 hz2 rfl (by decide) _ _ _ rfl LR_5.out ad ([] : List Sp.S).length p3 (flat2 ([] : List Sp.S)) rfl (flat2_length _) (spans_news LO_5.out) (flat2_ones _) (by unfold maxLen; omega) (by omega) (by omega) ?_)
                  intro v' w1 hown1 hgrow hiff
                  have hG := grow_app HB5.out LR_5.out hown1 hgrow
                  have HG1 := Lib.hid hG
                  clear hG hown1 hgrow hiff hbs
                  go_wp2
                  go_roundw
                  case rel => exact ⟨n + 1, _, by omega, by go_num, by rw [HCU.out], rfl, Lib.hid (by rw [HPU.out]; exact HG1.out)⟩
                  case measure => simp [intOf]; omega
              · obtain rfl : bv = true := by rw [hbv, decide_eq_true_eq, HMI.out]; exact hoe
                clear hbv HMI
                have zn : 0 < os.length := List.length_pos_iff.2 hoe
                have zl : (0 : Int) < (os.length : Int) := by omega
                have zd : decide ((0 : Int) < (os.length : Int)) = true := by rw [decide_eq_true_eq]; exact zl
                obtain ⟨ad, rfl⟩ : ∃ ad, a3 = some ad := by
                  rcases LO_3.out.2.2.2 with h | ⟨b, off, h, _⟩
                  · exact (hoe h).elim
                  · exact ⟨_, h⟩
                clear zn
                have HMY := Lib.hid (refMay_any _ _ os _ LO_3.out)
                rw [@decide_eq_true _ (Classical.propDecidable _) HOV.out] at HMY
                go_wp2_with fail
                refine (HMY.out).mono ?_
                rintro en v4 ⟨rfl, hb⟩
                have HB4 := Lib.hid (HB3.out.trans (hb.mono HB3.out.size))
                have LA_4 := Lib.hid (LA_3.out.later hb)
                have LM_4 := Lib.hid (LM_3.out.later hb)
                have LR_4 := Lib.hid (LR_3.out.later hb)
                have LO_4 := Lib.hid (LO_3.out.later hb)
                clear hb 
                clear HMY
                have HCT := Lib.hid (refCount_any _ _ os _ hol LO_4.out)
                go_wp2_with fail
                refine (HCT.out).mono ?_
                rintro en v5 ⟨rfl, hb⟩
                have HB5 := Lib.hid (HB4.out.trans (hb.mono HB4.out.size))
                have LA_5 := Lib.hid (LA_4.out.later hb)
                have LM_5 := Lib.hid (LM_4.out.later hb)
                have LR_5 := Lib.hid (LR_4.out.later hb)
                have LO_5 := Lib.hid (LO_4.out.later hb)
                clear hb 
                clear HCT
                have hbs := HB5.out.size
                go_wp2_with (at_builtin; refine wpList_append_own _ rfl (.tmp 77) (.tmp 78) 23 rfl v2.heap.size 51 i0 (.agg #[.int .i64 0, .int .i64 0]) 2 16 Try.underlying23 hi hz0 hz1 hz2 rfl (by decide) _ _ _ rfl LR_5.out ad os.length p3 (flat2 os) rfl (flat2_length _) (spans_news LO_5.out) (flat2_ones _) (by unfold maxLen; omega) (by omega) (by omega) ?_)
                intro v' w1 hown1 hgrow hiff
                have hG := grow_app HB5.out LR_5.out hown1 hgrow
                have HG1 := Lib.hid hG
                clear hG hown1 hgrow hiff hbs
                go_wp2
                go_roundw
                case rel => exact ⟨n + 1, _, by omega, by go_num, by rw [HCU.out], rfl, Lib.hid (by rw [HPU.out]; exact HG1.out)⟩
                case measure => simp [intOf]; omega
        · obtain rfl : n = 8 := by omega
          have hpl := parts_len la 8
          have hcb := cntUp_bound VA.out 8
          have hql : (partsUp la 8).length ≤ 100000 := by omega
          have hqq : (cntUp la 8 == countS (spL la)) = true := by rw [beq_iff_eq]; exact cntUp_all VA.out
          have HPA := Lib.hid (parts_all VA.out)
          obtain ⟨a8, p8, rfl, hsp, -⟩ := spans_of_row HG.out.1 (by omega) (parts_ints la 8)
          have HBE := Lib.hid (HB2.out.trans (HG.out.2.mono HB2.out.size))
          have LSE := Lib.hid (LS_2.out.later HG.out.2)
          have LPE := Lib.hid hsp
          have t5 := hsp.1
          have t6 := hsp.2.1
          clear HG hsp
          go_wp2_with fail
          refine (refNorm_any _ _ (partsUp la 8) _ hql LPE.out).mono ?_
          rintro en v11 ⟨ax, px, rfl, hs, hb⟩
          have HB11 := Lib.hid (HBE.out.trans (hb.mono HBE.out.size))
          have LS_11 := Lib.hid (LSE.out.later hb)
          have LP_11 := Lib.hid (LPE.out.later hb)
          have LX_11 := Lib.hid hs
          clear hb hs
          go_wp2_with fail
          refine (refNorm_any _ _ (spL la) _ hsl LS_11.out).mono ?_
          rintro en v12 ⟨ay, py, rfl, hs, hb⟩
          have HB12 := Lib.hid (HB11.out.trans (hb.mono HB11.out.size))
          have LS_12 := Lib.hid (LS_11.out.later hb)
          have LP_12 := Lib.hid (LP_11.out.later hb)
          have LX_12 := Lib.hid (LX_11.out.later hb)
          have LY_12 := Lib.hid hs
          clear hb hs
          have HSS := Lib.hid (refSame_any _ _ _ _ _ _ _ LX_12.out LY_12.out)
          rw [decide_eq_true HPA.out] at HSS
          go_wp2_with fail
          refine (HSS.out).mono ?_
          rintro en v13 ⟨rfl, hb⟩
          have HB13 := Lib.hid (HB12.out.trans (hb.mono HB12.out.size))
          have LS_13 := Lib.hid (LS_12.out.later hb)
          have LP_13 := Lib.hid (LP_12.out.later hb)
          have LX_13 := Lib.hid (LX_12.out.later hb)
          have LY_13 := Lib.hid (LY_12.out.later hb)
          clear hb 
          clear HSS
          go_wp2_with fail
          refine (refCount_any _ _ (spL la) _ hsl LS_13.out).mono ?_
          rintro en v14 ⟨rfl, hb⟩
          have HB14 := Lib.hid (HB13.out.trans (hb.mono HB13.out.size))
          have LS_14 := Lib.hid (LS_13.out.later hb)
          have LP_14 := Lib.hid (LP_13.out.later hb)
          have LX_14 := Lib.hid (LX_13.out.later hb)
          have LY_14 := Lib.hid (LY_13.out.later hb)
          clear hb 
          go_wp2_with fail
          refine (awake_any _).mono ?_
          rintro en v15 ⟨rfl, hb⟩
          have HB15 := Lib.hid (HB14.out.trans (hb.mono HB14.out.size))
          have LS_15 := Lib.hid (LS_14.out.later hb)
          have LP_15 := Lib.hid (LP_14.out.later hb)
          have LX_15 := Lib.hid (LX_14.out.later hb)
          have LY_15 := Lib.hid (LY_14.out.later hb)
          clear hb 
          go_wp2
          go_ret
          exact ⟨rfl, HB15.out⟩

set_option maxRecDepth 100000 in
theorem lifted (os : Os) (started : os.Started) (H : Type) (enc : TypeId × Value → H) :
    ReturnsInHanded {} Try.checked os 7 .any (Rows.claimsPartsSpec.pre6 enc Try.prog Try.f7 Rows.claimsPartsRow.domain false) (Rows.claimsPartsSpec.post enc Try.prog Try.f7 false true false false) := by
  refine returnsInHanded_of_change (C := Try.checked) own started (by kernel_rfl) Try.func7
    (ChangeSpec.witness6 (enc := enc) (C := Try.checked) false ⟨#[], #[.slice none 0 0], []⟩ 8 (by kernel_rfl) (by kernel_rfl) (by kernel_rfl) (by kernel_rfl)) ?_
  intro W base args ds gs before hval0 hW hcnd _
  have hval : ∀ (j : Nat) t v, Try.f7.params[j]? = some t → args[j]? = some v → Value.okWide Try.prog W .any base t v := hval0
  have hW' := hW
  obtain ⟨p, q, hA0, hV, rfl, hfz, hnd⟩ := hW
  have hA : DataW.TrodAll enc Try.prog W 0 (fun _ => true) true Try.f7.params.toList args.toList ds p := hA0
  rw [Try.params7] at hA hval
  obtain ⟨v0, vs0, d0, ds0, p0, q0, hargs, rfl, rfl, h0, r0⟩ := trodAll_cons hA
  obtain ⟨rfl, rfl, rfl⟩ := trodAll_nil r0
  obtain rfl : args = #[v0] := by cases args; simp_all
  obtain ⟨rfl, rfl⟩ := trodVars_none hV
  obtain ⟨a0, len0, cap0, rfl⟩ := okWide_slice Try.underlying39 (hval 0 39 v0 rfl rfl)
  have k0 := h0
  have lt0 : ∀ x ∈ p0, x.block < W.heap.size := by obtain ⟨m, hm⟩ := k0; exact DataW.trod_lt m _ _ _ hm
  obtain ⟨z0, rfl, w0⟩ : ∃ l : List Int, len0 = l.length ∧ U16s W a0 cap0 l := by
    obtain ⟨fuel, hf⟩ := h0
    exact open_u16s hf
  clear hA0 hval0
  refine (walk a0 cap0 z0 W w0).mono fun e W' ⟨he, bel⟩ => ?_
  subst he
  exact ⟨_, rfl, _, _, _, [], _, [], hW', trodAll_mk1 (shut_bool Try.underlying4 _), (trodAll_cons_mk (Below.trod laidOut (by kernel_rfl) (of_decide_eq_true (by kernel_rfl)) k0 bel lt0) trodAll_mk0), rfl, bel.frame _, fun h => by cases h⟩

theorem over : Rows.claimsPartsRow.holds Try.pinned (OpenSpec.ofChange Rows.claimsPartsSpec) :=
  OpenClaim.holds_of_wide 7 Try.f7 rfl rfl rfl rfl rfl rfl rfl ⟨rfl, rfl, rfl, rfl, rfl⟩ rfl rfl rfl rfl rfl (by kernel_rfl) Try.func7 (by kernel_rfl)
    (of_decide_eq_true (by kernel_rfl)) (by unfold Func.isWrapper; first | (rw [if_pos (by decide +kernel)]; kernel_rfl) | (rw [if_neg (by decide +kernel)]; exact ⟨rfl, rfl⟩))
    (fun os started H enc _ => lifted os started H enc)

theorem proved : Rows.ClaimsPartsSaid := over
#print axioms proved
end Go.Proofs.Ytchladbjhodkoaa.claimsParts
